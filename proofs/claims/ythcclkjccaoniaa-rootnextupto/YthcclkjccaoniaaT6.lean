/- penumbralaw02.RootNext: true. -/
import Derived.Test.YthcclkjccaoniaaT0
namespace Go.Proofs.Ythcclkjccaoniaa
open Go.RowKit M

theorem n_one : toL 1 = [1] := toL_is rfl (lim1 (by omega)) (.inr (by simp))
theorem n_g {a : Nat} : toL (Nat.gcd a (a + val [1])) = [1] := by
  rw [show val [1] = 1 from rfl, Nat.gcd_self_add_right, Nat.gcd_one_right]; exact n_one
theorem n_z {a : Nat} (h : a = 0) : toL (isq (a * a + val [1])) = [1] := by
  rw [h, show isq (0 * 0 + val [1]) = 1 from isq_eq (by simp [val]) (by simp [val])]; exact n_one
theorem n_zd {a : Nat} (h : a = 0) : decide (isq (a * a + val [1]) * isq (a * a + val [1]) = a * a + val [1]) = true := by
  rw [h, show isq (0 * 0 + val [1]) = 1 from isq_eq (by simp [val]) (by simp [val])]; simp [val]
theorem n_p {a : Nat} (h : a ≠ 0) : toL (isq (a * a + val [1])) = toL a := by
  rw [show val [1] = 1 from rfl, isq_sq_one (Nat.pos_of_ne_zero h)]
theorem n_pd {a : Nat} (h : a ≠ 0) : decide (isq (a * a + val [1]) * isq (a * a + val [1]) = a * a + val [1]) = false := by
  rw [show val [1] = 1 from rfl, isq_sq_one (Nat.pos_of_ne_zero h)]; exact decide_eq_false (by omega)

set_option maxHeartbeats 2000000 in
theorem next_zero (w0 : World) (ao : Option Addr) (an ac K : Nat) (xs : List Nat) (sa : Sl w0.heap.size w0 ao an ac xs) (la : an ≤ K) (hK : K ≤ 1048576) (H : Hid (val xs = 0)) :
    Calls Try.prog 8 #[.slice ao an ac] w0 fun e w' => e = .returned (.bool true) ∧ Below w0.heap.size w0 w' := by
  go_enter Try.func8, Try.ntmps8
  have B0 : Below w0.heap.size w0 w0 := Below.refl _ _
  go_wp2_with fail
  obtain ⟨so, lb⟩ := lit1 w0 1 [1] #[.int .u32 1] rfl (lim1 (by omega)) rfl
  have B1 := B0.trans (lb.mono B0.size)
  replace sa := sa.later lb
  clear lb B0
  generalize w0.alloc (.cells #[.int .u32 1] 32) = w1 at *
  refine (mul_k sa sa (K) (K) (by omega) (by omega) (by omega) (by omega)).mono ?_
  rintro e w2 ⟨po, pn, pc, rfl, sp, lp, lb⟩
  try simp only [val_toL] at sp
  have B2 := B1.trans (lb.mono B1.size)
  replace sa := sa.later lb
  replace so := so.later lb
  clear lb B1
  go_wp2_with fail
  refine (add_k sp so (K + K + 1) (by omega) (by omega) (by omega)).mono ?_
  rintro e w3 ⟨qo, qn, qc, rfl, sq, lq, lb⟩
  try simp only [val_toL] at sq
  have B3 := B2.trans (lb.mono B2.size)
  replace sa := sa.later lb
  replace so := so.later lb
  clear lb B2 sp
  go_wp2_with fail
  refine (sqrt_k sq (K + K + 2) (by omega) (by omega)).mono ?_
  rintro e w4 ⟨ro, rn, rc, rfl, sr, lr, lb⟩
  rw [val_toL, n_z H.out] at sr
  rw [val_toL, n_zd H.out]
  have B4 := B3.trans (lb.mono B3.size)
  replace sa := sa.later lb
  replace so := so.later lb
  replace sq := sq.later lb
  clear lb B3
  go_wp2_with fail
  refine (fixed2_any _).mono ?_
  rintro e w5 ⟨rfl, lb⟩
  have B5 := B4.trans (lb.mono B4.size)
  replace sa := sa.later lb
  replace so := so.later lb
  replace sq := sq.later lb
  replace sr := sr.later lb
  clear lb B4
  go_wp2_with fail
  refine (add_k sa so (K + 1) (by omega) (by omega) (by omega)).mono ?_
  rintro e w6 ⟨uo, un, uc, rfl, su, lu, lb⟩
  try simp only [val_toL] at su
  have B6 := B5.trans (lb.mono B5.size)
  replace sa := sa.later lb
  replace so := so.later lb
  replace sq := sq.later lb
  replace sr := sr.later lb
  clear lb B5
  go_wp2_with fail
  refine (gcd_k sa su (K + 2) (by omega) (by omega) (by omega)).mono ?_
  rintro e w7 ⟨go, gn, gc, rfl, sg, lg, lb⟩
  try simp only [val_toL] at sg
  have B7 := B6.trans (lb.mono B6.size)
  replace sa := sa.later lb
  replace so := so.later lb
  replace sq := sq.later lb
  replace sr := sr.later lb
  replace su := su.later lb
  clear lb B6
  go_wp2_with fail
  refine (same_k sg so n_g (by omega)).mono ?_
  rintro e w8 ⟨rfl, lb⟩
  have B8 := B7.trans (lb.mono B7.size)
  replace sa := sa.later lb
  replace so := so.later lb
  replace sq := sq.later lb
  replace sr := sr.later lb
  clear lb B7 sg su
  go_wp2_with fail
  refine (norm_k sa (K) (by omega) (by omega)).mono ?_
  rintro e w9 ⟨zo, zn, zc, rfl, sz, lz, lb⟩
  try simp only [val_toL] at sz
  have B9 := B8.trans (lb.mono B8.size)
  replace sa := sa.later lb
  replace so := so.later lb
  replace sq := sq.later lb
  replace sr := sr.later lb
  clear lb B8
  have tz : zn = 0 := by have := sz.len; rw [H.out, toL_zero] at this; exact this.symm
  have tb : ((zn : Int) == 0) = true := by simp [tz]
  clear tz lz
  go_wp2_with fail
  refine (same_k sr so rfl (by omega)).mono ?_
  rintro e w10 ⟨rfl, lb⟩
  have B10 := B9.trans (lb.mono B9.size)
  replace sa := sa.later lb
  replace so := so.later lb
  replace sq := sq.later lb
  replace sr := sr.later lb
  replace sz := sz.later lb
  clear lb B9
  go_wp2
  go_ret
  exact ⟨rfl, B10⟩

set_option maxHeartbeats 2000000 in
theorem next_pos (w0 : World) (ao : Option Addr) (an ac K : Nat) (xs : List Nat) (sa : Sl w0.heap.size w0 ao an ac xs) (la : an ≤ K) (hK : K ≤ 1048576) (H : Hid (val xs ≠ 0)) :
    Calls Try.prog 8 #[.slice ao an ac] w0 fun e w' => e = .returned (.bool true) ∧ Below w0.heap.size w0 w' := by
  go_enter Try.func8, Try.ntmps8
  have B0 : Below w0.heap.size w0 w0 := Below.refl _ _
  go_wp2_with fail
  obtain ⟨so, lb⟩ := lit1 w0 1 [1] #[.int .u32 1] rfl (lim1 (by omega)) rfl
  have B1 := B0.trans (lb.mono B0.size)
  replace sa := sa.later lb
  clear lb B0
  generalize w0.alloc (.cells #[.int .u32 1] 32) = w1 at *
  refine (mul_k sa sa (K) (K) (by omega) (by omega) (by omega) (by omega)).mono ?_
  rintro e w2 ⟨po, pn, pc, rfl, sp, lp, lb⟩
  try simp only [val_toL] at sp
  have B2 := B1.trans (lb.mono B1.size)
  replace sa := sa.later lb
  replace so := so.later lb
  clear lb B1
  go_wp2_with fail
  refine (add_k sp so (K + K + 1) (by omega) (by omega) (by omega)).mono ?_
  rintro e w3 ⟨qo, qn, qc, rfl, sq, lq, lb⟩
  try simp only [val_toL] at sq
  have B3 := B2.trans (lb.mono B2.size)
  replace sa := sa.later lb
  replace so := so.later lb
  clear lb B2 sp
  go_wp2_with fail
  refine (sqrt_k sq (K + K + 2) (by omega) (by omega)).mono ?_
  rintro e w4 ⟨ro, rn, rc, rfl, sr, lr, lb⟩
  rw [val_toL, n_p H.out] at sr
  rw [val_toL, n_pd H.out]
  have B4 := B3.trans (lb.mono B3.size)
  replace sa := sa.later lb
  replace so := so.later lb
  replace sq := sq.later lb
  clear lb B3
  go_wp2_with fail
  refine (fixed2_any _).mono ?_
  rintro e w5 ⟨rfl, lb⟩
  have B5 := B4.trans (lb.mono B4.size)
  replace sa := sa.later lb
  replace so := so.later lb
  replace sq := sq.later lb
  replace sr := sr.later lb
  clear lb B4
  go_wp2_with fail
  refine (add_k sa so (K + 1) (by omega) (by omega) (by omega)).mono ?_
  rintro e w6 ⟨uo, un, uc, rfl, su, lu, lb⟩
  try simp only [val_toL] at su
  have B6 := B5.trans (lb.mono B5.size)
  replace sa := sa.later lb
  replace so := so.later lb
  replace sq := sq.later lb
  replace sr := sr.later lb
  clear lb B5
  go_wp2_with fail
  refine (gcd_k sa su (K + 2) (by omega) (by omega) (by omega)).mono ?_
  rintro e w7 ⟨go, gn, gc, rfl, sg, lg, lb⟩
  try simp only [val_toL] at sg
  have B7 := B6.trans (lb.mono B6.size)
  replace sa := sa.later lb
  replace so := so.later lb
  replace sq := sq.later lb
  replace sr := sr.later lb
  replace su := su.later lb
  clear lb B6
  go_wp2_with fail
  refine (same_k sg so n_g (by omega)).mono ?_
  rintro e w8 ⟨rfl, lb⟩
  have B8 := B7.trans (lb.mono B7.size)
  replace sa := sa.later lb
  replace so := so.later lb
  replace sq := sq.later lb
  replace sr := sr.later lb
  clear lb B7 sg su
  go_wp2_with fail
  refine (norm_k sa (K) (by omega) (by omega)).mono ?_
  rintro e w9 ⟨zo, zn, zc, rfl, sz, lz, lb⟩
  try simp only [val_toL] at sz
  have B9 := B8.trans (lb.mono B8.size)
  replace sa := sa.later lb
  replace so := so.later lb
  replace sq := sq.later lb
  replace sr := sr.later lb
  clear lb B8
  have tz : zn ≠ 0 := by rw [← sz.len]; exact Nat.ne_of_gt (toL_length_pos H.out)
  have tb : ((zn : Int) == 0) = false := by rw [beq_eq_false_iff_ne]; omega
  clear tz lz
  go_wp2_with fail
  refine (norm_k sa (K) (by omega) (by omega)).mono ?_
  rintro e w10 ⟨yo, yn, yc, rfl, sy, ly, lb⟩
  try simp only [val_toL] at sy
  have B10 := B9.trans (lb.mono B9.size)
  replace sa := sa.later lb
  replace so := so.later lb
  replace sq := sq.later lb
  replace sr := sr.later lb
  replace sz := sz.later lb
  clear lb B9
  go_wp2_with fail
  refine (same_k sr sy rfl (by omega)).mono ?_
  rintro e w11 ⟨rfl, lb⟩
  have B11 := B10.trans (lb.mono B10.size)
  replace sa := sa.later lb
  replace so := so.later lb
  replace sq := sq.later lb
  replace sr := sr.later lb
  replace sz := sz.later lb
  replace sy := sy.later lb
  clear lb B10
  go_wp2
  go_ret
  exact ⟨rfl, B11⟩

theorem next_any (w0 : World) (ao : Option Addr) (an ac K : Nat) (xs : List Nat) (sa : Sl w0.heap.size w0 ao an ac xs) (la : an ≤ K) (hK : K ≤ 1048576) :
    Calls Try.prog 8 #[.slice ao an ac] w0 fun e w' => e = .returned (.bool true) ∧ Below w0.heap.size w0 w' := by
  by_cases h : val xs = 0
  · exact next_zero w0 ao an ac K xs sa la hK h
  · exact next_pos w0 ao an ac K xs sa la hK h

end Go.Proofs.Ythcclkjccaoniaa
