/- penumbralaw02.RootFactors: true. -/
import Derived.Test.YthcclkjccaoniaaT0
namespace Go.Proofs.Ythcclkjccaoniaa
open Go.RowKit M

theorem gcd_more (a b c : Nat) : Nat.gcd (a + b * c) b = Nat.gcd a b := by simp

set_option maxHeartbeats 2000000 in
theorem factors_any (w0 : World) (ao bo co : Option Addr) (an ac bn bc cn cc K : Nat) (xs ys zs : List Nat) (sa : Sl w0.heap.size w0 ao an ac xs) (sb : Sl w0.heap.size w0 bo bn bc ys) (sc : Sl w0.heap.size w0 co cn cc zs) (la : an ≤ K) (lb0 : bn ≤ K) (lc0 : cn ≤ K) (hK : K ≤ 1048576) :
    Calls Try.prog 6 #[.slice ao an ac, .slice bo bn bc, .slice co cn cc] w0 fun e w' => e = .returned (.bool true) ∧ Below w0.heap.size w0 w' := by
  go_enter Try.func6, Try.ntmps6
  have B0 : Below w0.heap.size w0 w0 := Below.refl _ _
  go_wp2_with fail
  refine (gcd_k sa sb (K) (by omega) (by omega) (by omega)).mono ?_
  rintro e w1 ⟨go, gn, gc, rfl, sg, lg, lb⟩
  try simp only [val_toL] at sg
  have B1 := B0.trans (lb.mono B0.size)
  replace sa := sa.later lb
  replace sb := sb.later lb
  replace sc := sc.later lb
  clear lb B0
  go_wp2_with fail
  refine (fixed2_any _).mono ?_
  rintro e w2 ⟨rfl, lb⟩
  have B2 := B1.trans (lb.mono B1.size)
  replace sa := sa.later lb
  replace sb := sb.later lb
  replace sc := sc.later lb
  replace sg := sg.later lb
  clear lb B1
  go_wp2_with fail
  refine (mul_k sa sc (K) (K) (by omega) (by omega) (by omega) (by omega)).mono ?_
  rintro e w3 ⟨po, pn, pc, rfl, sp, lp, lb⟩
  try simp only [val_toL] at sp
  have B3 := B2.trans (lb.mono B2.size)
  replace sa := sa.later lb
  replace sb := sb.later lb
  replace sc := sc.later lb
  replace sg := sg.later lb
  clear lb B2
  go_wp2_with fail
  refine (mul_k sb sc (K) (K) (by omega) (by omega) (by omega) (by omega)).mono ?_
  rintro e w4 ⟨qo, qn, qc, rfl, sq, lq, lb⟩
  try simp only [val_toL] at sq
  have B4 := B3.trans (lb.mono B3.size)
  replace sa := sa.later lb
  replace sb := sb.later lb
  replace sc := sc.later lb
  replace sg := sg.later lb
  replace sp := sp.later lb
  clear lb B3
  go_wp2_with fail
  refine (gcd_k sp sq (K + K) (by omega) (by omega) (by omega)).mono ?_
  rintro e w5 ⟨xo, xn, xc, rfl, sx, lx, lb⟩
  try simp only [val_toL] at sx
  have B5 := B4.trans (lb.mono B4.size)
  replace sa := sa.later lb
  replace sb := sb.later lb
  replace sc := sc.later lb
  replace sg := sg.later lb
  replace sq := sq.later lb
  clear lb B4 sp
  go_wp2_with fail
  refine (mul_k sg sc (K) (K) (by omega) (by omega) (by omega) (by omega)).mono ?_
  rintro e w6 ⟨yo, yn, yc, rfl, sy, ly, lb⟩
  try simp only [val_toL] at sy
  have B6 := B5.trans (lb.mono B5.size)
  replace sa := sa.later lb
  replace sb := sb.later lb
  replace sc := sc.later lb
  replace sg := sg.later lb
  replace sq := sq.later lb
  replace sx := sx.later lb
  clear lb B5
  go_wp2_with fail
  refine (same_k sx sy (by rw [Nat.gcd_mul_right]) (by omega)).mono ?_
  rintro e w7 ⟨rfl, lb⟩
  have B7 := B6.trans (lb.mono B6.size)
  replace sa := sa.later lb
  replace sb := sb.later lb
  replace sc := sc.later lb
  replace sg := sg.later lb
  clear lb B6 sx sy sq
  go_wp2_with fail
  refine (mul_k sb sc (K) (K) (by omega) (by omega) (by omega) (by omega)).mono ?_
  rintro e w8 ⟨qo, qn, qc, rfl, sq, lq, lb⟩
  try simp only [val_toL] at sq
  have B8 := B7.trans (lb.mono B7.size)
  replace sa := sa.later lb
  replace sb := sb.later lb
  replace sc := sc.later lb
  replace sg := sg.later lb
  clear lb B7
  go_wp2_with fail
  refine (add_k sa sq (K + K) (by omega) (by omega) (by omega)).mono ?_
  rintro e w9 ⟨po, pn, pc, rfl, sp, lp, lb⟩
  try simp only [val_toL] at sp
  have B9 := B8.trans (lb.mono B8.size)
  replace sa := sa.later lb
  replace sb := sb.later lb
  replace sc := sc.later lb
  replace sg := sg.later lb
  replace sq := sq.later lb
  clear lb B8
  go_wp2_with fail
  refine (gcd_k sp sb (K + K + 1) (by omega) (by omega) (by omega)).mono ?_
  rintro e w10 ⟨xo, xn, xc, rfl, sx, lx, lb⟩
  try simp only [val_toL] at sx
  have B10 := B9.trans (lb.mono B9.size)
  replace sa := sa.later lb
  replace sb := sb.later lb
  replace sc := sc.later lb
  replace sg := sg.later lb
  replace sq := sq.later lb
  replace sp := sp.later lb
  clear lb B9
  go_wp2_with fail
  refine (same_k sx sg (by rw [gcd_more]) (by omega)).mono ?_
  rintro e w11 ⟨rfl, lb⟩
  have B11 := B10.trans (lb.mono B10.size)
  replace sa := sa.later lb
  replace sb := sb.later lb
  replace sc := sc.later lb
  replace sg := sg.later lb
  replace sq := sq.later lb
  replace sp := sp.later lb
  replace sx := sx.later lb
  clear lb B10
  go_wp2
  go_ret
  exact ⟨rfl, B11⟩

end Go.Proofs.Ythcclkjccaoniaa
