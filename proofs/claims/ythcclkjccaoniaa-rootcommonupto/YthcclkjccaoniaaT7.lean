/- penumbralaw02.RootCommon: true. -/
import Derived.Test.YthcclkjccaoniaaT1
namespace Go.Proofs.Ythcclkjccaoniaa
open Go.RowKit M

theorem c_one {a b : Nat} (h : Nat.gcd a b ≠ 0) : toL (Nat.gcd (a / Nat.gcd a b) (b / Nat.gcd a b)) = [1] := by
  rw [Nat.gcd_div (Nat.gcd_dvd_left _ _) (Nat.gcd_dvd_right _ _), Nat.div_self (Nat.pos_of_ne_zero h)]
  exact toL_is rfl (lim1 (by omega)) (.inr (by simp))

set_option maxHeartbeats 4000000 in
theorem common_00 (w0 : World) (ao bo co : Option Addr) (an ac bn bc cn cc K : Nat) (xs ys zs : List Nat) (sa : Sl w0.heap.size w0 ao an ac xs) (sb : Sl w0.heap.size w0 bo bn bc ys) (sc : Sl w0.heap.size w0 co cn cc zs) (la : an ≤ K) (lb0 : bn ≤ K) (lc0 : cn ≤ K) (hK : K ≤ 1048576) (Hc : Hid (val zs = 0)) (HG : Hid (Nat.gcd (val xs) (val ys) ≠ 0)) :
    Calls Try.prog 5 #[.slice ao an ac, .slice bo bn bc, .slice co cn cc] w0 fun e w' => e = .returned (.bool true) ∧ Below w0.heap.size w0 w' := by
  go_enter Try.func5, Try.ntmps5
  have B0 : Below w0.heap.size w0 w0 := Below.refl _ _
  go_wp2_with fail
  refine (gcd_k sa sb (K) (by omega) (by omega) (by omega)).mono ?_
  rintro e w1 ⟨go, gn, gc, rfl, sg, lg, lb⟩
  try simp only [val_toL] at sg
  have B1 := B0.trans (lb.mono B0.size)
  replace sa := sa.later lb
  replace sb := sb.later lb
  replace sc := sc.later lb
  clear lb B0
  go_wp2_with fail
  refine (fixed2_any _).mono ?_
  rintro e w2 ⟨rfl, lb⟩
  have B2 := B1.trans (lb.mono B1.size)
  replace sa := sa.later lb
  replace sb := sb.later lb
  replace sc := sc.later lb
  replace sg := sg.later lb
  clear lb B1
  go_wp2_with fail
  refine (divides_k sg sa K (by omega) (by omega) (by omega)).mono ?_
  rintro e w3 ⟨rfl, lb⟩
  have B3 := B2.trans (lb.mono B2.size)
  replace sa := sa.later lb
  replace sb := sb.later lb
  replace sc := sc.later lb
  replace sg := sg.later lb
  clear lb B2
  rw [val_toL, decide_eq_true (Nat.gcd_dvd_left _ _)]
  go_wp2_with fail
  refine (divides_k sg sb K (by omega) (by omega) (by omega)).mono ?_
  rintro e w4 ⟨rfl, lb⟩
  have B4 := B3.trans (lb.mono B3.size)
  replace sa := sa.later lb
  replace sb := sb.later lb
  replace sc := sc.later lb
  replace sg := sg.later lb
  clear lb B3
  rw [val_toL, decide_eq_true (Nat.gcd_dvd_right _ _)]
  go_wp2_with fail
  refine (gcd_k sb sa (K) (by omega) (by omega) (by omega)).mono ?_
  rintro e w5 ⟨ho, hn, hc, rfl, sh, lh, lb⟩
  try simp only [val_toL] at sh
  have B5 := B4.trans (lb.mono B4.size)
  replace sa := sa.later lb
  replace sb := sb.later lb
  replace sc := sc.later lb
  replace sg := sg.later lb
  clear lb B4
  go_wp2_with fail
  refine (same_k sg sh (by rw [Nat.gcd_comm]) (by omega)).mono ?_
  rintro e w6 ⟨rfl, lb⟩
  have B6 := B5.trans (lb.mono B5.size)
  replace sa := sa.later lb
  replace sb := sb.later lb
  replace sc := sc.later lb
  replace sg := sg.later lb
  clear lb B5 sh
  go_wp2_with fail
  refine (norm_k sc (K) (by omega) (by omega)).mono ?_
  rintro e w7 ⟨zo, zn, zc, rfl, sz, lz, lb⟩
  try simp only [val_toL] at sz
  have B7 := B6.trans (lb.mono B6.size)
  replace sa := sa.later lb
  replace sb := sb.later lb
  replace sc := sc.later lb
  replace sg := sg.later lb
  clear lb B6
  have tz : zn = 0 := by have := sz.len; rw [Hc.out, toL_zero] at this; exact this.symm
  subst tz
  have tg : gn ≠ 0 := by rw [← sg.len]; exact Nat.ne_of_gt (toL_length_pos HG.out)
  have tgb : ((gn : Int) == 0) = false := by rw [beq_eq_false_iff_ne]; omega
  clear tg
  go_wp2_with fail
  refine (divMod_k sa sg K (by omega) (by omega) (by omega) (by rw [val_toL]; exact HG.out)).mono ?_
  rintro e w8 ⟨xo, xn, xc, ro, rn, rc, rfl, sx, sr, lx, lr, lb⟩
  rw [val_toL] at sx
  clear sr
  have B8 := B7.trans (lb.mono B7.size)
  replace sa := sa.later lb
  replace sb := sb.later lb
  replace sc := sc.later lb
  replace sg := sg.later lb
  replace sz := sz.later lb
  clear lb B7
  go_wp2_with fail
  refine (divMod_k sb sg K (by omega) (by omega) (by omega) (by rw [val_toL]; exact HG.out)).mono ?_
  rintro e w9 ⟨yo, yn, yc, qo, qn, qc, rfl, sy, sr, ly, lr2, lb⟩
  rw [val_toL] at sy
  clear sr
  have B9 := B8.trans (lb.mono B8.size)
  replace sa := sa.later lb
  replace sb := sb.later lb
  replace sc := sc.later lb
  replace sg := sg.later lb
  replace sz := sz.later lb
  replace sx := sx.later lb
  clear lb B8
  go_wp2_with fail
  refine (gcd_k sx sy (K) (by omega) (by omega) (by omega)).mono ?_
  rintro e w10 ⟨uo, un, uc, rfl, su, lu, lb⟩
  try simp only [val_toL] at su
  have B10 := B9.trans (lb.mono B9.size)
  replace sa := sa.later lb
  replace sb := sb.later lb
  replace sc := sc.later lb
  replace sg := sg.later lb
  replace sz := sz.later lb
  replace sx := sx.later lb
  replace sy := sy.later lb
  clear lb B9
  go_wp2_with fail
  obtain ⟨so, lb⟩ := lit1 w10 1 [1] #[.int .u32 1] rfl (lim1 (by omega)) rfl
  have B11 := B10.trans (lb.mono B10.size)
  replace sa := sa.later lb
  replace sb := sb.later lb
  replace sc := sc.later lb
  replace sg := sg.later lb
  replace sz := sz.later lb
  replace sx := sx.later lb
  replace sy := sy.later lb
  replace su := su.later lb
  clear lb B10
  generalize w10.alloc (.cells #[.int .u32 1] 32) = w11 at *
  refine (same_k su so (c_one HG.out) (by omega)).mono ?_
  rintro e w12 ⟨rfl, lb⟩
  have B12 := B11.trans (lb.mono B11.size)
  replace sa := sa.later lb
  replace sb := sb.later lb
  replace sc := sc.later lb
  replace sg := sg.later lb
  replace sz := sz.later lb
  replace sx := sx.later lb
  replace sy := sy.later lb
  replace su := su.later lb
  replace so := so.later lb
  clear lb B11
  go_wp2
  go_ret
  exact ⟨rfl, B12⟩

set_option maxHeartbeats 4000000 in
theorem common_01 (w0 : World) (ao bo co : Option Addr) (an ac bn bc cn cc K : Nat) (xs ys zs : List Nat) (sa : Sl w0.heap.size w0 ao an ac xs) (sb : Sl w0.heap.size w0 bo bn bc ys) (sc : Sl w0.heap.size w0 co cn cc zs) (la : an ≤ K) (lb0 : bn ≤ K) (lc0 : cn ≤ K) (hK : K ≤ 1048576) (Hc : Hid (val zs = 0)) (HG : Hid (Nat.gcd (val xs) (val ys) = 0)) :
    Calls Try.prog 5 #[.slice ao an ac, .slice bo bn bc, .slice co cn cc] w0 fun e w' => e = .returned (.bool true) ∧ Below w0.heap.size w0 w' := by
  go_enter Try.func5, Try.ntmps5
  have B0 : Below w0.heap.size w0 w0 := Below.refl _ _
  go_wp2_with fail
  refine (gcd_k sa sb (K) (by omega) (by omega) (by omega)).mono ?_
  rintro e w1 ⟨go, gn, gc, rfl, sg, lg, lb⟩
  try simp only [val_toL] at sg
  have B1 := B0.trans (lb.mono B0.size)
  replace sa := sa.later lb
  replace sb := sb.later lb
  replace sc := sc.later lb
  clear lb B0
  go_wp2_with fail
  refine (fixed2_any _).mono ?_
  rintro e w2 ⟨rfl, lb⟩
  have B2 := B1.trans (lb.mono B1.size)
  replace sa := sa.later lb
  replace sb := sb.later lb
  replace sc := sc.later lb
  replace sg := sg.later lb
  clear lb B1
  go_wp2_with fail
  refine (divides_k sg sa K (by omega) (by omega) (by omega)).mono ?_
  rintro e w3 ⟨rfl, lb⟩
  have B3 := B2.trans (lb.mono B2.size)
  replace sa := sa.later lb
  replace sb := sb.later lb
  replace sc := sc.later lb
  replace sg := sg.later lb
  clear lb B2
  rw [val_toL, decide_eq_true (Nat.gcd_dvd_left _ _)]
  go_wp2_with fail
  refine (divides_k sg sb K (by omega) (by omega) (by omega)).mono ?_
  rintro e w4 ⟨rfl, lb⟩
  have B4 := B3.trans (lb.mono B3.size)
  replace sa := sa.later lb
  replace sb := sb.later lb
  replace sc := sc.later lb
  replace sg := sg.later lb
  clear lb B3
  rw [val_toL, decide_eq_true (Nat.gcd_dvd_right _ _)]
  go_wp2_with fail
  refine (gcd_k sb sa (K) (by omega) (by omega) (by omega)).mono ?_
  rintro e w5 ⟨ho, hn, hc, rfl, sh, lh, lb⟩
  try simp only [val_toL] at sh
  have B5 := B4.trans (lb.mono B4.size)
  replace sa := sa.later lb
  replace sb := sb.later lb
  replace sc := sc.later lb
  replace sg := sg.later lb
  clear lb B4
  go_wp2_with fail
  refine (same_k sg sh (by rw [Nat.gcd_comm]) (by omega)).mono ?_
  rintro e w6 ⟨rfl, lb⟩
  have B6 := B5.trans (lb.mono B5.size)
  replace sa := sa.later lb
  replace sb := sb.later lb
  replace sc := sc.later lb
  replace sg := sg.later lb
  clear lb B5 sh
  go_wp2_with fail
  refine (norm_k sc (K) (by omega) (by omega)).mono ?_
  rintro e w7 ⟨zo, zn, zc, rfl, sz, lz, lb⟩
  try simp only [val_toL] at sz
  have B7 := B6.trans (lb.mono B6.size)
  replace sa := sa.later lb
  replace sb := sb.later lb
  replace sc := sc.later lb
  replace sg := sg.later lb
  clear lb B6
  have tz : zn = 0 := by have := sz.len; rw [Hc.out, toL_zero] at this; exact this.symm
  subst tz
  have tg : gn = 0 := by have := sg.len; rw [HG.out, toL_zero] at this; exact this.symm
  have tgb : ((gn : Int) == 0) = true := by simp [tg]
  clear tg
  go_wp2_with fail
  refine (norm_k sa (K) (by omega) (by omega)).mono ?_
  rintro e w8 ⟨yo, yn, yc, rfl, sy, ly, lb⟩
  try simp only [val_toL] at sy
  have B8 := B7.trans (lb.mono B7.size)
  replace sa := sa.later lb
  replace sb := sb.later lb
  replace sc := sc.later lb
  replace sg := sg.later lb
  replace sz := sz.later lb
  clear lb B7
  have ty : yn = 0 := by have := sy.len; rw [(Nat.gcd_eq_zero_iff.1 HG.out).1, toL_zero] at this; exact this.symm
  have tyb : ((yn : Int) == 0) = true := by simp [ty]
  clear ty
  go_wp2_with fail
  refine (norm_k sb (K) (by omega) (by omega)).mono ?_
  rintro e w9 ⟨xo, xn, xc, rfl, sx, lx, lb⟩
  try simp only [val_toL] at sx
  have B9 := B8.trans (lb.mono B8.size)
  replace sa := sa.later lb
  replace sb := sb.later lb
  replace sc := sc.later lb
  replace sg := sg.later lb
  replace sz := sz.later lb
  replace sy := sy.later lb
  clear lb B8
  have tx : xn = 0 := by have := sx.len; rw [(Nat.gcd_eq_zero_iff.1 HG.out).2, toL_zero] at this; exact this.symm
  have txb : ((xn : Int) == 0) = true := by simp [tx]
  clear tx
  go_wp2
  go_ret
  exact ⟨rfl, B9⟩

set_option maxHeartbeats 4000000 in
theorem common_10 (w0 : World) (ao bo co : Option Addr) (an ac bn bc cn cc K : Nat) (xs ys zs : List Nat) (sa : Sl w0.heap.size w0 ao an ac xs) (sb : Sl w0.heap.size w0 bo bn bc ys) (sc : Sl w0.heap.size w0 co cn cc zs) (la : an ≤ K) (lb0 : bn ≤ K) (lc0 : cn ≤ K) (hK : K ≤ 1048576) (Hc : Hid (val zs ≠ 0)) (Ha : Hid (¬ val zs ∣ val xs)) (HG : Hid (Nat.gcd (val xs) (val ys) ≠ 0)) :
    Calls Try.prog 5 #[.slice ao an ac, .slice bo bn bc, .slice co cn cc] w0 fun e w' => e = .returned (.bool true) ∧ Below w0.heap.size w0 w' := by
  go_enter Try.func5, Try.ntmps5
  have B0 : Below w0.heap.size w0 w0 := Below.refl _ _
  go_wp2_with fail
  refine (gcd_k sa sb (K) (by omega) (by omega) (by omega)).mono ?_
  rintro e w1 ⟨go, gn, gc, rfl, sg, lg, lb⟩
  try simp only [val_toL] at sg
  have B1 := B0.trans (lb.mono B0.size)
  replace sa := sa.later lb
  replace sb := sb.later lb
  replace sc := sc.later lb
  clear lb B0
  go_wp2_with fail
  refine (fixed2_any _).mono ?_
  rintro e w2 ⟨rfl, lb⟩
  have B2 := B1.trans (lb.mono B1.size)
  replace sa := sa.later lb
  replace sb := sb.later lb
  replace sc := sc.later lb
  replace sg := sg.later lb
  clear lb B1
  go_wp2_with fail
  refine (divides_k sg sa K (by omega) (by omega) (by omega)).mono ?_
  rintro e w3 ⟨rfl, lb⟩
  have B3 := B2.trans (lb.mono B2.size)
  replace sa := sa.later lb
  replace sb := sb.later lb
  replace sc := sc.later lb
  replace sg := sg.later lb
  clear lb B2
  rw [val_toL, decide_eq_true (Nat.gcd_dvd_left _ _)]
  go_wp2_with fail
  refine (divides_k sg sb K (by omega) (by omega) (by omega)).mono ?_
  rintro e w4 ⟨rfl, lb⟩
  have B4 := B3.trans (lb.mono B3.size)
  replace sa := sa.later lb
  replace sb := sb.later lb
  replace sc := sc.later lb
  replace sg := sg.later lb
  clear lb B3
  rw [val_toL, decide_eq_true (Nat.gcd_dvd_right _ _)]
  go_wp2_with fail
  refine (gcd_k sb sa (K) (by omega) (by omega) (by omega)).mono ?_
  rintro e w5 ⟨ho, hn, hc, rfl, sh, lh, lb⟩
  try simp only [val_toL] at sh
  have B5 := B4.trans (lb.mono B4.size)
  replace sa := sa.later lb
  replace sb := sb.later lb
  replace sc := sc.later lb
  replace sg := sg.later lb
  clear lb B4
  go_wp2_with fail
  refine (same_k sg sh (by rw [Nat.gcd_comm]) (by omega)).mono ?_
  rintro e w6 ⟨rfl, lb⟩
  have B6 := B5.trans (lb.mono B5.size)
  replace sa := sa.later lb
  replace sb := sb.later lb
  replace sc := sc.later lb
  replace sg := sg.later lb
  clear lb B5 sh
  go_wp2_with fail
  refine (norm_k sc (K) (by omega) (by omega)).mono ?_
  rintro e w7 ⟨zo, zn, zc, rfl, sz, lz, lb⟩
  try simp only [val_toL] at sz
  have B7 := B6.trans (lb.mono B6.size)
  replace sa := sa.later lb
  replace sb := sb.later lb
  replace sc := sc.later lb
  replace sg := sg.later lb
  clear lb B6
  have tz : 0 < zn := by rw [← sz.len]; exact toL_length_pos Hc.out
  have tb : decide (0 < (zn : Int)) = true := by simp; omega
  go_wp2_with fail
  refine (divides_k sc sa K (by omega) (by omega) (by omega)).mono ?_
  rintro e w8 ⟨rfl, lb⟩
  have B8 := B7.trans (lb.mono B7.size)
  replace sa := sa.later lb
  replace sb := sb.later lb
  replace sc := sc.later lb
  replace sg := sg.later lb
  replace sz := sz.later lb
  clear lb B7
  rw [decide_eq_false Ha.out]
  have tg : gn ≠ 0 := by rw [← sg.len]; exact Nat.ne_of_gt (toL_length_pos HG.out)
  have tgb : ((gn : Int) == 0) = false := by rw [beq_eq_false_iff_ne]; omega
  clear tg
  go_wp2_with fail
  refine (divMod_k sa sg K (by omega) (by omega) (by omega) (by rw [val_toL]; exact HG.out)).mono ?_
  rintro e w9 ⟨xo, xn, xc, ro, rn, rc, rfl, sx, sr, lx, lr, lb⟩
  rw [val_toL] at sx
  clear sr
  have B9 := B8.trans (lb.mono B8.size)
  replace sa := sa.later lb
  replace sb := sb.later lb
  replace sc := sc.later lb
  replace sg := sg.later lb
  replace sz := sz.later lb
  clear lb B8
  go_wp2_with fail
  refine (divMod_k sb sg K (by omega) (by omega) (by omega) (by rw [val_toL]; exact HG.out)).mono ?_
  rintro e w10 ⟨yo, yn, yc, qo, qn, qc, rfl, sy, sr, ly, lr2, lb⟩
  rw [val_toL] at sy
  clear sr
  have B10 := B9.trans (lb.mono B9.size)
  replace sa := sa.later lb
  replace sb := sb.later lb
  replace sc := sc.later lb
  replace sg := sg.later lb
  replace sz := sz.later lb
  replace sx := sx.later lb
  clear lb B9
  go_wp2_with fail
  refine (gcd_k sx sy (K) (by omega) (by omega) (by omega)).mono ?_
  rintro e w11 ⟨uo, un, uc, rfl, su, lu, lb⟩
  try simp only [val_toL] at su
  have B11 := B10.trans (lb.mono B10.size)
  replace sa := sa.later lb
  replace sb := sb.later lb
  replace sc := sc.later lb
  replace sg := sg.later lb
  replace sz := sz.later lb
  replace sx := sx.later lb
  replace sy := sy.later lb
  clear lb B10
  go_wp2_with fail
  obtain ⟨so, lb⟩ := lit1 w11 1 [1] #[.int .u32 1] rfl (lim1 (by omega)) rfl
  have B12 := B11.trans (lb.mono B11.size)
  replace sa := sa.later lb
  replace sb := sb.later lb
  replace sc := sc.later lb
  replace sg := sg.later lb
  replace sz := sz.later lb
  replace sx := sx.later lb
  replace sy := sy.later lb
  replace su := su.later lb
  clear lb B11
  generalize w11.alloc (.cells #[.int .u32 1] 32) = w12 at *
  refine (same_k su so (c_one HG.out) (by omega)).mono ?_
  rintro e w13 ⟨rfl, lb⟩
  have B13 := B12.trans (lb.mono B12.size)
  replace sa := sa.later lb
  replace sb := sb.later lb
  replace sc := sc.later lb
  replace sg := sg.later lb
  replace sz := sz.later lb
  replace sx := sx.later lb
  replace sy := sy.later lb
  replace su := su.later lb
  replace so := so.later lb
  clear lb B12
  go_wp2
  go_ret
  exact ⟨rfl, B13⟩

set_option maxHeartbeats 4000000 in
theorem common_11 (w0 : World) (ao bo co : Option Addr) (an ac bn bc cn cc K : Nat) (xs ys zs : List Nat) (sa : Sl w0.heap.size w0 ao an ac xs) (sb : Sl w0.heap.size w0 bo bn bc ys) (sc : Sl w0.heap.size w0 co cn cc zs) (la : an ≤ K) (lb0 : bn ≤ K) (lc0 : cn ≤ K) (hK : K ≤ 1048576) (Hc : Hid (val zs ≠ 0)) (Ha : Hid (¬ val zs ∣ val xs)) (HG : Hid (Nat.gcd (val xs) (val ys) = 0)) :
    Calls Try.prog 5 #[.slice ao an ac, .slice bo bn bc, .slice co cn cc] w0 fun e w' => e = .returned (.bool true) ∧ Below w0.heap.size w0 w' := by
  go_enter Try.func5, Try.ntmps5
  have B0 : Below w0.heap.size w0 w0 := Below.refl _ _
  go_wp2_with fail
  refine (gcd_k sa sb (K) (by omega) (by omega) (by omega)).mono ?_
  rintro e w1 ⟨go, gn, gc, rfl, sg, lg, lb⟩
  try simp only [val_toL] at sg
  have B1 := B0.trans (lb.mono B0.size)
  replace sa := sa.later lb
  replace sb := sb.later lb
  replace sc := sc.later lb
  clear lb B0
  go_wp2_with fail
  refine (fixed2_any _).mono ?_
  rintro e w2 ⟨rfl, lb⟩
  have B2 := B1.trans (lb.mono B1.size)
  replace sa := sa.later lb
  replace sb := sb.later lb
  replace sc := sc.later lb
  replace sg := sg.later lb
  clear lb B1
  go_wp2_with fail
  refine (divides_k sg sa K (by omega) (by omega) (by omega)).mono ?_
  rintro e w3 ⟨rfl, lb⟩
  have B3 := B2.trans (lb.mono B2.size)
  replace sa := sa.later lb
  replace sb := sb.later lb
  replace sc := sc.later lb
  replace sg := sg.later lb
  clear lb B2
  rw [val_toL, decide_eq_true (Nat.gcd_dvd_left _ _)]
  go_wp2_with fail
  refine (divides_k sg sb K (by omega) (by omega) (by omega)).mono ?_
  rintro e w4 ⟨rfl, lb⟩
  have B4 := B3.trans (lb.mono B3.size)
  replace sa := sa.later lb
  replace sb := sb.later lb
  replace sc := sc.later lb
  replace sg := sg.later lb
  clear lb B3
  rw [val_toL, decide_eq_true (Nat.gcd_dvd_right _ _)]
  go_wp2_with fail
  refine (gcd_k sb sa (K) (by omega) (by omega) (by omega)).mono ?_
  rintro e w5 ⟨ho, hn, hc, rfl, sh, lh, lb⟩
  try simp only [val_toL] at sh
  have B5 := B4.trans (lb.mono B4.size)
  replace sa := sa.later lb
  replace sb := sb.later lb
  replace sc := sc.later lb
  replace sg := sg.later lb
  clear lb B4
  go_wp2_with fail
  refine (same_k sg sh (by rw [Nat.gcd_comm]) (by omega)).mono ?_
  rintro e w6 ⟨rfl, lb⟩
  have B6 := B5.trans (lb.mono B5.size)
  replace sa := sa.later lb
  replace sb := sb.later lb
  replace sc := sc.later lb
  replace sg := sg.later lb
  clear lb B5 sh
  go_wp2_with fail
  refine (norm_k sc (K) (by omega) (by omega)).mono ?_
  rintro e w7 ⟨zo, zn, zc, rfl, sz, lz, lb⟩
  try simp only [val_toL] at sz
  have B7 := B6.trans (lb.mono B6.size)
  replace sa := sa.later lb
  replace sb := sb.later lb
  replace sc := sc.later lb
  replace sg := sg.later lb
  clear lb B6
  have tz : 0 < zn := by rw [← sz.len]; exact toL_length_pos Hc.out
  have tb : decide (0 < (zn : Int)) = true := by simp; omega
  go_wp2_with fail
  refine (divides_k sc sa K (by omega) (by omega) (by omega)).mono ?_
  rintro e w8 ⟨rfl, lb⟩
  have B8 := B7.trans (lb.mono B7.size)
  replace sa := sa.later lb
  replace sb := sb.later lb
  replace sc := sc.later lb
  replace sg := sg.later lb
  replace sz := sz.later lb
  clear lb B7
  rw [decide_eq_false Ha.out]
  have tg : gn = 0 := by have := sg.len; rw [HG.out, toL_zero] at this; exact this.symm
  have tgb : ((gn : Int) == 0) = true := by simp [tg]
  clear tg
  go_wp2_with fail
  refine (norm_k sa (K) (by omega) (by omega)).mono ?_
  rintro e w9 ⟨yo, yn, yc, rfl, sy, ly, lb⟩
  try simp only [val_toL] at sy
  have B9 := B8.trans (lb.mono B8.size)
  replace sa := sa.later lb
  replace sb := sb.later lb
  replace sc := sc.later lb
  replace sg := sg.later lb
  replace sz := sz.later lb
  clear lb B8
  have ty : yn = 0 := by have := sy.len; rw [(Nat.gcd_eq_zero_iff.1 HG.out).1, toL_zero] at this; exact this.symm
  have tyb : ((yn : Int) == 0) = true := by simp [ty]
  clear ty
  go_wp2_with fail
  refine (norm_k sb (K) (by omega) (by omega)).mono ?_
  rintro e w10 ⟨xo, xn, xc, rfl, sx, lx, lb⟩
  try simp only [val_toL] at sx
  have B10 := B9.trans (lb.mono B9.size)
  replace sa := sa.later lb
  replace sb := sb.later lb
  replace sc := sc.later lb
  replace sg := sg.later lb
  replace sz := sz.later lb
  replace sy := sy.later lb
  clear lb B9
  have tx : xn = 0 := by have := sx.len; rw [(Nat.gcd_eq_zero_iff.1 HG.out).2, toL_zero] at this; exact this.symm
  have txb : ((xn : Int) == 0) = true := by simp [tx]
  clear tx
  go_wp2
  go_ret
  exact ⟨rfl, B10⟩

set_option maxHeartbeats 4000000 in
theorem common_20 (w0 : World) (ao bo co : Option Addr) (an ac bn bc cn cc K : Nat) (xs ys zs : List Nat) (sa : Sl w0.heap.size w0 ao an ac xs) (sb : Sl w0.heap.size w0 bo bn bc ys) (sc : Sl w0.heap.size w0 co cn cc zs) (la : an ≤ K) (lb0 : bn ≤ K) (lc0 : cn ≤ K) (hK : K ≤ 1048576) (Hc : Hid (val zs ≠ 0)) (Ha : Hid (val zs ∣ val xs)) (Hb : Hid (¬ val zs ∣ val ys)) (HG : Hid (Nat.gcd (val xs) (val ys) ≠ 0)) :
    Calls Try.prog 5 #[.slice ao an ac, .slice bo bn bc, .slice co cn cc] w0 fun e w' => e = .returned (.bool true) ∧ Below w0.heap.size w0 w' := by
  go_enter Try.func5, Try.ntmps5
  have B0 : Below w0.heap.size w0 w0 := Below.refl _ _
  go_wp2_with fail
  refine (gcd_k sa sb (K) (by omega) (by omega) (by omega)).mono ?_
  rintro e w1 ⟨go, gn, gc, rfl, sg, lg, lb⟩
  try simp only [val_toL] at sg
  have B1 := B0.trans (lb.mono B0.size)
  replace sa := sa.later lb
  replace sb := sb.later lb
  replace sc := sc.later lb
  clear lb B0
  go_wp2_with fail
  refine (fixed2_any _).mono ?_
  rintro e w2 ⟨rfl, lb⟩
  have B2 := B1.trans (lb.mono B1.size)
  replace sa := sa.later lb
  replace sb := sb.later lb
  replace sc := sc.later lb
  replace sg := sg.later lb
  clear lb B1
  go_wp2_with fail
  refine (divides_k sg sa K (by omega) (by omega) (by omega)).mono ?_
  rintro e w3 ⟨rfl, lb⟩
  have B3 := B2.trans (lb.mono B2.size)
  replace sa := sa.later lb
  replace sb := sb.later lb
  replace sc := sc.later lb
  replace sg := sg.later lb
  clear lb B2
  rw [val_toL, decide_eq_true (Nat.gcd_dvd_left _ _)]
  go_wp2_with fail
  refine (divides_k sg sb K (by omega) (by omega) (by omega)).mono ?_
  rintro e w4 ⟨rfl, lb⟩
  have B4 := B3.trans (lb.mono B3.size)
  replace sa := sa.later lb
  replace sb := sb.later lb
  replace sc := sc.later lb
  replace sg := sg.later lb
  clear lb B3
  rw [val_toL, decide_eq_true (Nat.gcd_dvd_right _ _)]
  go_wp2_with fail
  refine (gcd_k sb sa (K) (by omega) (by omega) (by omega)).mono ?_
  rintro e w5 ⟨ho, hn, hc, rfl, sh, lh, lb⟩
  try simp only [val_toL] at sh
  have B5 := B4.trans (lb.mono B4.size)
  replace sa := sa.later lb
  replace sb := sb.later lb
  replace sc := sc.later lb
  replace sg := sg.later lb
  clear lb B4
  go_wp2_with fail
  refine (same_k sg sh (by rw [Nat.gcd_comm]) (by omega)).mono ?_
  rintro e w6 ⟨rfl, lb⟩
  have B6 := B5.trans (lb.mono B5.size)
  replace sa := sa.later lb
  replace sb := sb.later lb
  replace sc := sc.later lb
  replace sg := sg.later lb
  clear lb B5 sh
  go_wp2_with fail
  refine (norm_k sc (K) (by omega) (by omega)).mono ?_
  rintro e w7 ⟨zo, zn, zc, rfl, sz, lz, lb⟩
  try simp only [val_toL] at sz
  have B7 := B6.trans (lb.mono B6.size)
  replace sa := sa.later lb
  replace sb := sb.later lb
  replace sc := sc.later lb
  replace sg := sg.later lb
  clear lb B6
  have tz : 0 < zn := by rw [← sz.len]; exact toL_length_pos Hc.out
  have tb : decide (0 < (zn : Int)) = true := by simp; omega
  go_wp2_with fail
  refine (divides_k sc sa K (by omega) (by omega) (by omega)).mono ?_
  rintro e w8 ⟨rfl, lb⟩
  have B8 := B7.trans (lb.mono B7.size)
  replace sa := sa.later lb
  replace sb := sb.later lb
  replace sc := sc.later lb
  replace sg := sg.later lb
  replace sz := sz.later lb
  clear lb B7
  rw [decide_eq_true Ha.out]
  go_wp2_with fail
  refine (divides_k sc sb K (by omega) (by omega) (by omega)).mono ?_
  rintro e w9 ⟨rfl, lb⟩
  have B9 := B8.trans (lb.mono B8.size)
  replace sa := sa.later lb
  replace sb := sb.later lb
  replace sc := sc.later lb
  replace sg := sg.later lb
  replace sz := sz.later lb
  clear lb B8
  rw [decide_eq_false Hb.out]
  have tg : gn ≠ 0 := by rw [← sg.len]; exact Nat.ne_of_gt (toL_length_pos HG.out)
  have tgb : ((gn : Int) == 0) = false := by rw [beq_eq_false_iff_ne]; omega
  clear tg
  go_wp2_with fail
  refine (divMod_k sa sg K (by omega) (by omega) (by omega) (by rw [val_toL]; exact HG.out)).mono ?_
  rintro e w10 ⟨xo, xn, xc, ro, rn, rc, rfl, sx, sr, lx, lr, lb⟩
  rw [val_toL] at sx
  clear sr
  have B10 := B9.trans (lb.mono B9.size)
  replace sa := sa.later lb
  replace sb := sb.later lb
  replace sc := sc.later lb
  replace sg := sg.later lb
  replace sz := sz.later lb
  clear lb B9
  go_wp2_with fail
  refine (divMod_k sb sg K (by omega) (by omega) (by omega) (by rw [val_toL]; exact HG.out)).mono ?_
  rintro e w11 ⟨yo, yn, yc, qo, qn, qc, rfl, sy, sr, ly, lr2, lb⟩
  rw [val_toL] at sy
  clear sr
  have B11 := B10.trans (lb.mono B10.size)
  replace sa := sa.later lb
  replace sb := sb.later lb
  replace sc := sc.later lb
  replace sg := sg.later lb
  replace sz := sz.later lb
  replace sx := sx.later lb
  clear lb B10
  go_wp2_with fail
  refine (gcd_k sx sy (K) (by omega) (by omega) (by omega)).mono ?_
  rintro e w12 ⟨uo, un, uc, rfl, su, lu, lb⟩
  try simp only [val_toL] at su
  have B12 := B11.trans (lb.mono B11.size)
  replace sa := sa.later lb
  replace sb := sb.later lb
  replace sc := sc.later lb
  replace sg := sg.later lb
  replace sz := sz.later lb
  replace sx := sx.later lb
  replace sy := sy.later lb
  clear lb B11
  go_wp2_with fail
  obtain ⟨so, lb⟩ := lit1 w12 1 [1] #[.int .u32 1] rfl (lim1 (by omega)) rfl
  have B13 := B12.trans (lb.mono B12.size)
  replace sa := sa.later lb
  replace sb := sb.later lb
  replace sc := sc.later lb
  replace sg := sg.later lb
  replace sz := sz.later lb
  replace sx := sx.later lb
  replace sy := sy.later lb
  replace su := su.later lb
  clear lb B12
  generalize w12.alloc (.cells #[.int .u32 1] 32) = w13 at *
  refine (same_k su so (c_one HG.out) (by omega)).mono ?_
  rintro e w14 ⟨rfl, lb⟩
  have B14 := B13.trans (lb.mono B13.size)
  replace sa := sa.later lb
  replace sb := sb.later lb
  replace sc := sc.later lb
  replace sg := sg.later lb
  replace sz := sz.later lb
  replace sx := sx.later lb
  replace sy := sy.later lb
  replace su := su.later lb
  replace so := so.later lb
  clear lb B13
  go_wp2
  go_ret
  exact ⟨rfl, B14⟩

set_option maxHeartbeats 4000000 in
theorem common_21 (w0 : World) (ao bo co : Option Addr) (an ac bn bc cn cc K : Nat) (xs ys zs : List Nat) (sa : Sl w0.heap.size w0 ao an ac xs) (sb : Sl w0.heap.size w0 bo bn bc ys) (sc : Sl w0.heap.size w0 co cn cc zs) (la : an ≤ K) (lb0 : bn ≤ K) (lc0 : cn ≤ K) (hK : K ≤ 1048576) (Hc : Hid (val zs ≠ 0)) (Ha : Hid (val zs ∣ val xs)) (Hb : Hid (¬ val zs ∣ val ys)) (HG : Hid (Nat.gcd (val xs) (val ys) = 0)) :
    Calls Try.prog 5 #[.slice ao an ac, .slice bo bn bc, .slice co cn cc] w0 fun e w' => e = .returned (.bool true) ∧ Below w0.heap.size w0 w' := by
  go_enter Try.func5, Try.ntmps5
  have B0 : Below w0.heap.size w0 w0 := Below.refl _ _
  go_wp2_with fail
  refine (gcd_k sa sb (K) (by omega) (by omega) (by omega)).mono ?_
  rintro e w1 ⟨go, gn, gc, rfl, sg, lg, lb⟩
  try simp only [val_toL] at sg
  have B1 := B0.trans (lb.mono B0.size)
  replace sa := sa.later lb
  replace sb := sb.later lb
  replace sc := sc.later lb
  clear lb B0
  go_wp2_with fail
  refine (fixed2_any _).mono ?_
  rintro e w2 ⟨rfl, lb⟩
  have B2 := B1.trans (lb.mono B1.size)
  replace sa := sa.later lb
  replace sb := sb.later lb
  replace sc := sc.later lb
  replace sg := sg.later lb
  clear lb B1
  go_wp2_with fail
  refine (divides_k sg sa K (by omega) (by omega) (by omega)).mono ?_
  rintro e w3 ⟨rfl, lb⟩
  have B3 := B2.trans (lb.mono B2.size)
  replace sa := sa.later lb
  replace sb := sb.later lb
  replace sc := sc.later lb
  replace sg := sg.later lb
  clear lb B2
  rw [val_toL, decide_eq_true (Nat.gcd_dvd_left _ _)]
  go_wp2_with fail
  refine (divides_k sg sb K (by omega) (by omega) (by omega)).mono ?_
  rintro e w4 ⟨rfl, lb⟩
  have B4 := B3.trans (lb.mono B3.size)
  replace sa := sa.later lb
  replace sb := sb.later lb
  replace sc := sc.later lb
  replace sg := sg.later lb
  clear lb B3
  rw [val_toL, decide_eq_true (Nat.gcd_dvd_right _ _)]
  go_wp2_with fail
  refine (gcd_k sb sa (K) (by omega) (by omega) (by omega)).mono ?_
  rintro e w5 ⟨ho, hn, hc, rfl, sh, lh, lb⟩
  try simp only [val_toL] at sh
  have B5 := B4.trans (lb.mono B4.size)
  replace sa := sa.later lb
  replace sb := sb.later lb
  replace sc := sc.later lb
  replace sg := sg.later lb
  clear lb B4
  go_wp2_with fail
  refine (same_k sg sh (by rw [Nat.gcd_comm]) (by omega)).mono ?_
  rintro e w6 ⟨rfl, lb⟩
  have B6 := B5.trans (lb.mono B5.size)
  replace sa := sa.later lb
  replace sb := sb.later lb
  replace sc := sc.later lb
  replace sg := sg.later lb
  clear lb B5 sh
  go_wp2_with fail
  refine (norm_k sc (K) (by omega) (by omega)).mono ?_
  rintro e w7 ⟨zo, zn, zc, rfl, sz, lz, lb⟩
  try simp only [val_toL] at sz
  have B7 := B6.trans (lb.mono B6.size)
  replace sa := sa.later lb
  replace sb := sb.later lb
  replace sc := sc.later lb
  replace sg := sg.later lb
  clear lb B6
  have tz : 0 < zn := by rw [← sz.len]; exact toL_length_pos Hc.out
  have tb : decide (0 < (zn : Int)) = true := by simp; omega
  go_wp2_with fail
  refine (divides_k sc sa K (by omega) (by omega) (by omega)).mono ?_
  rintro e w8 ⟨rfl, lb⟩
  have B8 := B7.trans (lb.mono B7.size)
  replace sa := sa.later lb
  replace sb := sb.later lb
  replace sc := sc.later lb
  replace sg := sg.later lb
  replace sz := sz.later lb
  clear lb B7
  rw [decide_eq_true Ha.out]
  go_wp2_with fail
  refine (divides_k sc sb K (by omega) (by omega) (by omega)).mono ?_
  rintro e w9 ⟨rfl, lb⟩
  have B9 := B8.trans (lb.mono B8.size)
  replace sa := sa.later lb
  replace sb := sb.later lb
  replace sc := sc.later lb
  replace sg := sg.later lb
  replace sz := sz.later lb
  clear lb B8
  rw [decide_eq_false Hb.out]
  have tg : gn = 0 := by have := sg.len; rw [HG.out, toL_zero] at this; exact this.symm
  have tgb : ((gn : Int) == 0) = true := by simp [tg]
  clear tg
  go_wp2_with fail
  refine (norm_k sa (K) (by omega) (by omega)).mono ?_
  rintro e w10 ⟨yo, yn, yc, rfl, sy, ly, lb⟩
  try simp only [val_toL] at sy
  have B10 := B9.trans (lb.mono B9.size)
  replace sa := sa.later lb
  replace sb := sb.later lb
  replace sc := sc.later lb
  replace sg := sg.later lb
  replace sz := sz.later lb
  clear lb B9
  have ty : yn = 0 := by have := sy.len; rw [(Nat.gcd_eq_zero_iff.1 HG.out).1, toL_zero] at this; exact this.symm
  have tyb : ((yn : Int) == 0) = true := by simp [ty]
  clear ty
  go_wp2_with fail
  refine (norm_k sb (K) (by omega) (by omega)).mono ?_
  rintro e w11 ⟨xo, xn, xc, rfl, sx, lx, lb⟩
  try simp only [val_toL] at sx
  have B11 := B10.trans (lb.mono B10.size)
  replace sa := sa.later lb
  replace sb := sb.later lb
  replace sc := sc.later lb
  replace sg := sg.later lb
  replace sz := sz.later lb
  replace sy := sy.later lb
  clear lb B10
  have tx : xn = 0 := by have := sx.len; rw [(Nat.gcd_eq_zero_iff.1 HG.out).2, toL_zero] at this; exact this.symm
  have txb : ((xn : Int) == 0) = true := by simp [tx]
  clear tx
  go_wp2
  go_ret
  exact ⟨rfl, B11⟩

set_option maxHeartbeats 4000000 in
theorem common_30 (w0 : World) (ao bo co : Option Addr) (an ac bn bc cn cc K : Nat) (xs ys zs : List Nat) (sa : Sl w0.heap.size w0 ao an ac xs) (sb : Sl w0.heap.size w0 bo bn bc ys) (sc : Sl w0.heap.size w0 co cn cc zs) (la : an ≤ K) (lb0 : bn ≤ K) (lc0 : cn ≤ K) (hK : K ≤ 1048576) (Hc : Hid (val zs ≠ 0)) (Ha : Hid (val zs ∣ val xs)) (Hb : Hid (val zs ∣ val ys)) (HG : Hid (Nat.gcd (val xs) (val ys) ≠ 0)) :
    Calls Try.prog 5 #[.slice ao an ac, .slice bo bn bc, .slice co cn cc] w0 fun e w' => e = .returned (.bool true) ∧ Below w0.heap.size w0 w' := by
  go_enter Try.func5, Try.ntmps5
  have B0 : Below w0.heap.size w0 w0 := Below.refl _ _
  go_wp2_with fail
  refine (gcd_k sa sb (K) (by omega) (by omega) (by omega)).mono ?_
  rintro e w1 ⟨go, gn, gc, rfl, sg, lg, lb⟩
  try simp only [val_toL] at sg
  have B1 := B0.trans (lb.mono B0.size)
  replace sa := sa.later lb
  replace sb := sb.later lb
  replace sc := sc.later lb
  clear lb B0
  go_wp2_with fail
  refine (fixed2_any _).mono ?_
  rintro e w2 ⟨rfl, lb⟩
  have B2 := B1.trans (lb.mono B1.size)
  replace sa := sa.later lb
  replace sb := sb.later lb
  replace sc := sc.later lb
  replace sg := sg.later lb
  clear lb B1
  go_wp2_with fail
  refine (divides_k sg sa K (by omega) (by omega) (by omega)).mono ?_
  rintro e w3 ⟨rfl, lb⟩
  have B3 := B2.trans (lb.mono B2.size)
  replace sa := sa.later lb
  replace sb := sb.later lb
  replace sc := sc.later lb
  replace sg := sg.later lb
  clear lb B2
  rw [val_toL, decide_eq_true (Nat.gcd_dvd_left _ _)]
  go_wp2_with fail
  refine (divides_k sg sb K (by omega) (by omega) (by omega)).mono ?_
  rintro e w4 ⟨rfl, lb⟩
  have B4 := B3.trans (lb.mono B3.size)
  replace sa := sa.later lb
  replace sb := sb.later lb
  replace sc := sc.later lb
  replace sg := sg.later lb
  clear lb B3
  rw [val_toL, decide_eq_true (Nat.gcd_dvd_right _ _)]
  go_wp2_with fail
  refine (gcd_k sb sa (K) (by omega) (by omega) (by omega)).mono ?_
  rintro e w5 ⟨ho, hn, hc, rfl, sh, lh, lb⟩
  try simp only [val_toL] at sh
  have B5 := B4.trans (lb.mono B4.size)
  replace sa := sa.later lb
  replace sb := sb.later lb
  replace sc := sc.later lb
  replace sg := sg.later lb
  clear lb B4
  go_wp2_with fail
  refine (same_k sg sh (by rw [Nat.gcd_comm]) (by omega)).mono ?_
  rintro e w6 ⟨rfl, lb⟩
  have B6 := B5.trans (lb.mono B5.size)
  replace sa := sa.later lb
  replace sb := sb.later lb
  replace sc := sc.later lb
  replace sg := sg.later lb
  clear lb B5 sh
  go_wp2_with fail
  refine (norm_k sc (K) (by omega) (by omega)).mono ?_
  rintro e w7 ⟨zo, zn, zc, rfl, sz, lz, lb⟩
  try simp only [val_toL] at sz
  have B7 := B6.trans (lb.mono B6.size)
  replace sa := sa.later lb
  replace sb := sb.later lb
  replace sc := sc.later lb
  replace sg := sg.later lb
  clear lb B6
  have tz : 0 < zn := by rw [← sz.len]; exact toL_length_pos Hc.out
  have tb : decide (0 < (zn : Int)) = true := by simp; omega
  go_wp2_with fail
  refine (divides_k sc sa K (by omega) (by omega) (by omega)).mono ?_
  rintro e w8 ⟨rfl, lb⟩
  have B8 := B7.trans (lb.mono B7.size)
  replace sa := sa.later lb
  replace sb := sb.later lb
  replace sc := sc.later lb
  replace sg := sg.later lb
  replace sz := sz.later lb
  clear lb B7
  rw [decide_eq_true Ha.out]
  go_wp2_with fail
  refine (divides_k sc sb K (by omega) (by omega) (by omega)).mono ?_
  rintro e w9 ⟨rfl, lb⟩
  have B9 := B8.trans (lb.mono B8.size)
  replace sa := sa.later lb
  replace sb := sb.later lb
  replace sc := sc.later lb
  replace sg := sg.later lb
  replace sz := sz.later lb
  clear lb B8
  rw [decide_eq_true Hb.out]
  go_wp2_with fail
  refine (divides_k sc sg K (by omega) (by omega) (by omega)).mono ?_
  rintro e w10 ⟨rfl, lb⟩
  have B10 := B9.trans (lb.mono B9.size)
  replace sa := sa.later lb
  replace sb := sb.later lb
  replace sc := sc.later lb
  replace sg := sg.later lb
  replace sz := sz.later lb
  clear lb B9
  rw [val_toL, decide_eq_true (Nat.dvd_gcd Ha.out Hb.out)]
  have tg : gn ≠ 0 := by rw [← sg.len]; exact Nat.ne_of_gt (toL_length_pos HG.out)
  have tgb : ((gn : Int) == 0) = false := by rw [beq_eq_false_iff_ne]; omega
  clear tg
  go_wp2_with fail
  refine (divMod_k sa sg K (by omega) (by omega) (by omega) (by rw [val_toL]; exact HG.out)).mono ?_
  rintro e w11 ⟨xo, xn, xc, ro, rn, rc, rfl, sx, sr, lx, lr, lb⟩
  rw [val_toL] at sx
  clear sr
  have B11 := B10.trans (lb.mono B10.size)
  replace sa := sa.later lb
  replace sb := sb.later lb
  replace sc := sc.later lb
  replace sg := sg.later lb
  replace sz := sz.later lb
  clear lb B10
  go_wp2_with fail
  refine (divMod_k sb sg K (by omega) (by omega) (by omega) (by rw [val_toL]; exact HG.out)).mono ?_
  rintro e w12 ⟨yo, yn, yc, qo, qn, qc, rfl, sy, sr, ly, lr2, lb⟩
  rw [val_toL] at sy
  clear sr
  have B12 := B11.trans (lb.mono B11.size)
  replace sa := sa.later lb
  replace sb := sb.later lb
  replace sc := sc.later lb
  replace sg := sg.later lb
  replace sz := sz.later lb
  replace sx := sx.later lb
  clear lb B11
  go_wp2_with fail
  refine (gcd_k sx sy (K) (by omega) (by omega) (by omega)).mono ?_
  rintro e w13 ⟨uo, un, uc, rfl, su, lu, lb⟩
  try simp only [val_toL] at su
  have B13 := B12.trans (lb.mono B12.size)
  replace sa := sa.later lb
  replace sb := sb.later lb
  replace sc := sc.later lb
  replace sg := sg.later lb
  replace sz := sz.later lb
  replace sx := sx.later lb
  replace sy := sy.later lb
  clear lb B12
  go_wp2_with fail
  obtain ⟨so, lb⟩ := lit1 w13 1 [1] #[.int .u32 1] rfl (lim1 (by omega)) rfl
  have B14 := B13.trans (lb.mono B13.size)
  replace sa := sa.later lb
  replace sb := sb.later lb
  replace sc := sc.later lb
  replace sg := sg.later lb
  replace sz := sz.later lb
  replace sx := sx.later lb
  replace sy := sy.later lb
  replace su := su.later lb
  clear lb B13
  generalize w13.alloc (.cells #[.int .u32 1] 32) = w14 at *
  refine (same_k su so (c_one HG.out) (by omega)).mono ?_
  rintro e w15 ⟨rfl, lb⟩
  have B15 := B14.trans (lb.mono B14.size)
  replace sa := sa.later lb
  replace sb := sb.later lb
  replace sc := sc.later lb
  replace sg := sg.later lb
  replace sz := sz.later lb
  replace sx := sx.later lb
  replace sy := sy.later lb
  replace su := su.later lb
  replace so := so.later lb
  clear lb B14
  go_wp2
  go_ret
  exact ⟨rfl, B15⟩

set_option maxHeartbeats 4000000 in
theorem common_31 (w0 : World) (ao bo co : Option Addr) (an ac bn bc cn cc K : Nat) (xs ys zs : List Nat) (sa : Sl w0.heap.size w0 ao an ac xs) (sb : Sl w0.heap.size w0 bo bn bc ys) (sc : Sl w0.heap.size w0 co cn cc zs) (la : an ≤ K) (lb0 : bn ≤ K) (lc0 : cn ≤ K) (hK : K ≤ 1048576) (Hc : Hid (val zs ≠ 0)) (Ha : Hid (val zs ∣ val xs)) (Hb : Hid (val zs ∣ val ys)) (HG : Hid (Nat.gcd (val xs) (val ys) = 0)) :
    Calls Try.prog 5 #[.slice ao an ac, .slice bo bn bc, .slice co cn cc] w0 fun e w' => e = .returned (.bool true) ∧ Below w0.heap.size w0 w' := by
  go_enter Try.func5, Try.ntmps5
  have B0 : Below w0.heap.size w0 w0 := Below.refl _ _
  go_wp2_with fail
  refine (gcd_k sa sb (K) (by omega) (by omega) (by omega)).mono ?_
  rintro e w1 ⟨go, gn, gc, rfl, sg, lg, lb⟩
  try simp only [val_toL] at sg
  have B1 := B0.trans (lb.mono B0.size)
  replace sa := sa.later lb
  replace sb := sb.later lb
  replace sc := sc.later lb
  clear lb B0
  go_wp2_with fail
  refine (fixed2_any _).mono ?_
  rintro e w2 ⟨rfl, lb⟩
  have B2 := B1.trans (lb.mono B1.size)
  replace sa := sa.later lb
  replace sb := sb.later lb
  replace sc := sc.later lb
  replace sg := sg.later lb
  clear lb B1
  go_wp2_with fail
  refine (divides_k sg sa K (by omega) (by omega) (by omega)).mono ?_
  rintro e w3 ⟨rfl, lb⟩
  have B3 := B2.trans (lb.mono B2.size)
  replace sa := sa.later lb
  replace sb := sb.later lb
  replace sc := sc.later lb
  replace sg := sg.later lb
  clear lb B2
  rw [val_toL, decide_eq_true (Nat.gcd_dvd_left _ _)]
  go_wp2_with fail
  refine (divides_k sg sb K (by omega) (by omega) (by omega)).mono ?_
  rintro e w4 ⟨rfl, lb⟩
  have B4 := B3.trans (lb.mono B3.size)
  replace sa := sa.later lb
  replace sb := sb.later lb
  replace sc := sc.later lb
  replace sg := sg.later lb
  clear lb B3
  rw [val_toL, decide_eq_true (Nat.gcd_dvd_right _ _)]
  go_wp2_with fail
  refine (gcd_k sb sa (K) (by omega) (by omega) (by omega)).mono ?_
  rintro e w5 ⟨ho, hn, hc, rfl, sh, lh, lb⟩
  try simp only [val_toL] at sh
  have B5 := B4.trans (lb.mono B4.size)
  replace sa := sa.later lb
  replace sb := sb.later lb
  replace sc := sc.later lb
  replace sg := sg.later lb
  clear lb B4
  go_wp2_with fail
  refine (same_k sg sh (by rw [Nat.gcd_comm]) (by omega)).mono ?_
  rintro e w6 ⟨rfl, lb⟩
  have B6 := B5.trans (lb.mono B5.size)
  replace sa := sa.later lb
  replace sb := sb.later lb
  replace sc := sc.later lb
  replace sg := sg.later lb
  clear lb B5 sh
  go_wp2_with fail
  refine (norm_k sc (K) (by omega) (by omega)).mono ?_
  rintro e w7 ⟨zo, zn, zc, rfl, sz, lz, lb⟩
  try simp only [val_toL] at sz
  have B7 := B6.trans (lb.mono B6.size)
  replace sa := sa.later lb
  replace sb := sb.later lb
  replace sc := sc.later lb
  replace sg := sg.later lb
  clear lb B6
  have tz : 0 < zn := by rw [← sz.len]; exact toL_length_pos Hc.out
  have tb : decide (0 < (zn : Int)) = true := by simp; omega
  go_wp2_with fail
  refine (divides_k sc sa K (by omega) (by omega) (by omega)).mono ?_
  rintro e w8 ⟨rfl, lb⟩
  have B8 := B7.trans (lb.mono B7.size)
  replace sa := sa.later lb
  replace sb := sb.later lb
  replace sc := sc.later lb
  replace sg := sg.later lb
  replace sz := sz.later lb
  clear lb B7
  rw [decide_eq_true Ha.out]
  go_wp2_with fail
  refine (divides_k sc sb K (by omega) (by omega) (by omega)).mono ?_
  rintro e w9 ⟨rfl, lb⟩
  have B9 := B8.trans (lb.mono B8.size)
  replace sa := sa.later lb
  replace sb := sb.later lb
  replace sc := sc.later lb
  replace sg := sg.later lb
  replace sz := sz.later lb
  clear lb B8
  rw [decide_eq_true Hb.out]
  go_wp2_with fail
  refine (divides_k sc sg K (by omega) (by omega) (by omega)).mono ?_
  rintro e w10 ⟨rfl, lb⟩
  have B10 := B9.trans (lb.mono B9.size)
  replace sa := sa.later lb
  replace sb := sb.later lb
  replace sc := sc.later lb
  replace sg := sg.later lb
  replace sz := sz.later lb
  clear lb B9
  rw [val_toL, decide_eq_true (Nat.dvd_gcd Ha.out Hb.out)]
  have tg : gn = 0 := by have := sg.len; rw [HG.out, toL_zero] at this; exact this.symm
  have tgb : ((gn : Int) == 0) = true := by simp [tg]
  clear tg
  go_wp2_with fail
  refine (norm_k sa (K) (by omega) (by omega)).mono ?_
  rintro e w11 ⟨yo, yn, yc, rfl, sy, ly, lb⟩
  try simp only [val_toL] at sy
  have B11 := B10.trans (lb.mono B10.size)
  replace sa := sa.later lb
  replace sb := sb.later lb
  replace sc := sc.later lb
  replace sg := sg.later lb
  replace sz := sz.later lb
  clear lb B10
  have ty : yn = 0 := by have := sy.len; rw [(Nat.gcd_eq_zero_iff.1 HG.out).1, toL_zero] at this; exact this.symm
  have tyb : ((yn : Int) == 0) = true := by simp [ty]
  clear ty
  go_wp2_with fail
  refine (norm_k sb (K) (by omega) (by omega)).mono ?_
  rintro e w12 ⟨xo, xn, xc, rfl, sx, lx, lb⟩
  try simp only [val_toL] at sx
  have B12 := B11.trans (lb.mono B11.size)
  replace sa := sa.later lb
  replace sb := sb.later lb
  replace sc := sc.later lb
  replace sg := sg.later lb
  replace sz := sz.later lb
  replace sy := sy.later lb
  clear lb B11
  have tx : xn = 0 := by have := sx.len; rw [(Nat.gcd_eq_zero_iff.1 HG.out).2, toL_zero] at this; exact this.symm
  have txb : ((xn : Int) == 0) = true := by simp [tx]
  clear tx
  go_wp2
  go_ret
  exact ⟨rfl, B12⟩

theorem common_any (w0 : World) (ao bo co : Option Addr) (an ac bn bc cn cc K : Nat) (xs ys zs : List Nat) (sa : Sl w0.heap.size w0 ao an ac xs) (sb : Sl w0.heap.size w0 bo bn bc ys) (sc : Sl w0.heap.size w0 co cn cc zs) (la : an ≤ K) (lb0 : bn ≤ K) (lc0 : cn ≤ K) (hK : K ≤ 1048576) :
    Calls Try.prog 5 #[.slice ao an ac, .slice bo bn bc, .slice co cn cc] w0 fun e w' => e = .returned (.bool true) ∧ Below w0.heap.size w0 w' := by
  by_cases hg : Nat.gcd (val xs) (val ys) = 0
  · by_cases hc : val zs = 0
    · exact common_01 w0 ao bo co an ac bn bc cn cc K xs ys zs sa sb sc la lb0 lc0 hK hc hg
    · by_cases ha : val zs ∣ val xs
      · by_cases hb : val zs ∣ val ys
        · exact common_31 w0 ao bo co an ac bn bc cn cc K xs ys zs sa sb sc la lb0 lc0 hK hc ha hb hg
        · exact common_21 w0 ao bo co an ac bn bc cn cc K xs ys zs sa sb sc la lb0 lc0 hK hc ha hb hg
      · exact common_11 w0 ao bo co an ac bn bc cn cc K xs ys zs sa sb sc la lb0 lc0 hK hc ha hg
  · by_cases hc : val zs = 0
    · exact common_00 w0 ao bo co an ac bn bc cn cc K xs ys zs sa sb sc la lb0 lc0 hK hc hg
    · by_cases ha : val zs ∣ val xs
      · by_cases hb : val zs ∣ val ys
        · exact common_30 w0 ao bo co an ac bn bc cn cc K xs ys zs sa sb sc la lb0 lc0 hK hc ha hb hg
        · exact common_20 w0 ao bo co an ac bn bc cn cc K xs ys zs sa sb sc la lb0 lc0 hK hc ha hb hg
      · exact common_10 w0 ao bo co an ac bn bc cn cc K xs ys zs sa sb sc la lb0 lc0 hK hc ha hg

end Go.Proofs.Ythcclkjccaoniaa
