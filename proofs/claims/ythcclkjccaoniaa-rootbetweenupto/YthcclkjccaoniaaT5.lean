/- penumbralaw02.RootBetween: true. -/
import Derived.Test.YthcclkjccaoniaaT0
namespace Go.Proofs.Ythcclkjccaoniaa
open Go.RowKit M

set_option maxHeartbeats 2000000 in
theorem between_yes (w0 : World) (ao : Option Addr) (an ac K : Nat) (xs : List Nat) (sa : Sl w0.heap.size w0 ao an ac xs) (la : an ≤ K) (hK : K ≤ 1048576) (H : Hid (isq (val xs) * isq (val xs) = val xs)) :
    Calls Try.prog 7 #[.slice ao an ac] w0 fun e w' => e = .returned (.bool true) ∧ Below w0.heap.size w0 w' := by
  go_enter Try.func7, Try.ntmps7
  have B0 : Below w0.heap.size w0 w0 := Below.refl _ _
  go_wp2_with fail
  refine (sqrt_k sa (K) (by omega) (by omega)).mono ?_
  rintro e w1 ⟨so, sn, sc, rfl, ss, ls, lb⟩
  rw [show decide (isq (val xs) * isq (val xs) = val xs) = true from decide_eq_true H.out]
  have B1 := B0.trans (lb.mono B0.size)
  replace sa := sa.later lb
  clear lb B0
  go_wp2_with fail
  obtain ⟨so, lb⟩ := lit1 w1 1 [1] #[.int .u32 1] rfl (lim1 (by omega)) rfl
  have B2 := B1.trans (lb.mono B1.size)
  replace sa := sa.later lb
  replace ss := ss.later lb
  clear lb B1
  generalize w1.alloc (.cells #[.int .u32 1] 32) = w2 at *
  refine (add_k ss so (K + 1) (by omega) (by omega) (by omega)).mono ?_
  rintro e w3 ⟨no, nn, nc, rfl, sn, ln, lb⟩
  try simp only [val_toL] at sn
  have B3 := B2.trans (lb.mono B2.size)
  replace sa := sa.later lb
  replace ss := ss.later lb
  clear lb B2 so
  go_wp2_with fail
  refine (mul_k ss ss (K) (K) (by omega) (by omega) (by omega) (by omega)).mono ?_
  rintro e w4 ⟨po, pn, pc, rfl, sp, lp, lb⟩
  try simp only [val_toL] at sp
  have B4 := B3.trans (lb.mono B3.size)
  replace sa := sa.later lb
  replace sn := sn.later lb
  clear lb B3 ss
  go_wp2_with fail
  refine (cmp_k sp sa (by omega) (by omega)).mono ?_
  rintro e w5 ⟨rfl, lb⟩
  have B5 := B4.trans (lb.mono B4.size)
  replace sa := sa.later lb
  replace sn := sn.later lb
  replace sp := sp.later lb
  clear lb B4
  rw [val_toL, cmpN_eq H.out]
  go_wp2_with fail
  refine (fixed2_any _).mono ?_
  rintro e w6 ⟨rfl, lb⟩
  have B6 := B5.trans (lb.mono B5.size)
  replace sa := sa.later lb
  replace sn := sn.later lb
  replace sp := sp.later lb
  clear lb B5
  go_wp2_with fail
  refine (mul_k sn sn (K + 2) (K + 2) (by omega) (by omega) (by omega) (by omega)).mono ?_
  rintro e w7 ⟨qo, qn, qc, rfl, sq, lq, lb⟩
  try simp only [val_toL] at sq
  have B7 := B6.trans (lb.mono B6.size)
  replace sa := sa.later lb
  replace sn := sn.later lb
  clear lb B6 sp
  go_wp2_with fail
  refine (cmp_k sq sa (by omega) (by omega)).mono ?_
  rintro e w8 ⟨rfl, lb⟩
  have B8 := B7.trans (lb.mono B7.size)
  replace sa := sa.later lb
  replace sn := sn.later lb
  replace sq := sq.later lb
  clear lb B7
  rw [val_toL, show val [1] = 1 from rfl, cmpN_gt (isq_lt _)]
  go_wp2_with fail
  refine (mul_k sa sa (K) (K) (by omega) (by omega) (by omega) (by omega)).mono ?_
  rintro e w9 ⟨mo, mn, mc, rfl, sm, lm, lb⟩
  try simp only [val_toL] at sm
  have B9 := B8.trans (lb.mono B8.size)
  replace sa := sa.later lb
  replace sn := sn.later lb
  replace sq := sq.later lb
  clear lb B8
  go_wp2_with fail
  refine (sqrt_k sm (K + K) (by omega) (by omega)).mono ?_
  rintro e w10 ⟨to, tn, tc, rfl, st, lt, lb⟩
  rw [val_toL, isq_sq] at st
  rw [val_toL, isq_sq, show decide (val xs * val xs = val xs * val xs) = true from decide_eq_true rfl]
  have B10 := B9.trans (lb.mono B9.size)
  replace sa := sa.later lb
  replace sn := sn.later lb
  replace sq := sq.later lb
  replace sm := sm.later lb
  clear lb B9
  go_wp2_with fail
  refine (norm_k sa (K) (by omega) (by omega)).mono ?_
  rintro e w11 ⟨zo, zn, zc, rfl, sz, lz, lb⟩
  try simp only [val_toL] at sz
  have B11 := B10.trans (lb.mono B10.size)
  replace sa := sa.later lb
  replace sn := sn.later lb
  replace sq := sq.later lb
  replace sm := sm.later lb
  replace st := st.later lb
  clear lb B10
  go_wp2_with fail
  refine (same_k st sz rfl (by omega)).mono ?_
  rintro e w12 ⟨rfl, lb⟩
  have B12 := B11.trans (lb.mono B11.size)
  replace sa := sa.later lb
  replace sn := sn.later lb
  replace sq := sq.later lb
  replace sm := sm.later lb
  replace st := st.later lb
  replace sz := sz.later lb
  clear lb B11
  go_wp2
  go_ret
  exact ⟨rfl, B12⟩

set_option maxHeartbeats 2000000 in
theorem between_no (w0 : World) (ao : Option Addr) (an ac K : Nat) (xs : List Nat) (sa : Sl w0.heap.size w0 ao an ac xs) (la : an ≤ K) (hK : K ≤ 1048576) (H : Hid (¬ isq (val xs) * isq (val xs) = val xs)) :
    Calls Try.prog 7 #[.slice ao an ac] w0 fun e w' => e = .returned (.bool true) ∧ Below w0.heap.size w0 w' := by
  go_enter Try.func7, Try.ntmps7
  have B0 : Below w0.heap.size w0 w0 := Below.refl _ _
  go_wp2_with fail
  refine (sqrt_k sa (K) (by omega) (by omega)).mono ?_
  rintro e w1 ⟨so, sn, sc, rfl, ss, ls, lb⟩
  rw [show decide (isq (val xs) * isq (val xs) = val xs) = false from decide_eq_false H.out]
  have B1 := B0.trans (lb.mono B0.size)
  replace sa := sa.later lb
  clear lb B0
  go_wp2_with fail
  obtain ⟨so, lb⟩ := lit1 w1 1 [1] #[.int .u32 1] rfl (lim1 (by omega)) rfl
  have B2 := B1.trans (lb.mono B1.size)
  replace sa := sa.later lb
  replace ss := ss.later lb
  clear lb B1
  generalize w1.alloc (.cells #[.int .u32 1] 32) = w2 at *
  refine (add_k ss so (K + 1) (by omega) (by omega) (by omega)).mono ?_
  rintro e w3 ⟨no, nn, nc, rfl, sn, ln, lb⟩
  try simp only [val_toL] at sn
  have B3 := B2.trans (lb.mono B2.size)
  replace sa := sa.later lb
  replace ss := ss.later lb
  clear lb B2 so
  go_wp2_with fail
  refine (mul_k ss ss (K) (K) (by omega) (by omega) (by omega) (by omega)).mono ?_
  rintro e w4 ⟨po, pn, pc, rfl, sp, lp, lb⟩
  try simp only [val_toL] at sp
  have B4 := B3.trans (lb.mono B3.size)
  replace sa := sa.later lb
  replace sn := sn.later lb
  clear lb B3 ss
  go_wp2_with fail
  refine (cmp_k sp sa (by omega) (by omega)).mono ?_
  rintro e w5 ⟨rfl, lb⟩
  have B5 := B4.trans (lb.mono B4.size)
  replace sa := sa.later lb
  replace sn := sn.later lb
  replace sp := sp.later lb
  clear lb B4
  rw [val_toL, cmpN_lt (Nat.lt_of_le_of_ne (isq_le _) H.out)]
  go_wp2_with fail
  refine (fixed2_any _).mono ?_
  rintro e w6 ⟨rfl, lb⟩
  have B6 := B5.trans (lb.mono B5.size)
  replace sa := sa.later lb
  replace sn := sn.later lb
  replace sp := sp.later lb
  clear lb B5
  go_wp2_with fail
  refine (mul_k sn sn (K + 2) (K + 2) (by omega) (by omega) (by omega) (by omega)).mono ?_
  rintro e w7 ⟨qo, qn, qc, rfl, sq, lq, lb⟩
  try simp only [val_toL] at sq
  have B7 := B6.trans (lb.mono B6.size)
  replace sa := sa.later lb
  replace sn := sn.later lb
  clear lb B6 sp
  go_wp2_with fail
  refine (cmp_k sq sa (by omega) (by omega)).mono ?_
  rintro e w8 ⟨rfl, lb⟩
  have B8 := B7.trans (lb.mono B7.size)
  replace sa := sa.later lb
  replace sn := sn.later lb
  replace sq := sq.later lb
  clear lb B7
  rw [val_toL, show val [1] = 1 from rfl, cmpN_gt (isq_lt _)]
  go_wp2_with fail
  refine (mul_k sa sa (K) (K) (by omega) (by omega) (by omega) (by omega)).mono ?_
  rintro e w9 ⟨mo, mn, mc, rfl, sm, lm, lb⟩
  try simp only [val_toL] at sm
  have B9 := B8.trans (lb.mono B8.size)
  replace sa := sa.later lb
  replace sn := sn.later lb
  replace sq := sq.later lb
  clear lb B8
  go_wp2_with fail
  refine (sqrt_k sm (K + K) (by omega) (by omega)).mono ?_
  rintro e w10 ⟨to, tn, tc, rfl, st, lt, lb⟩
  rw [val_toL, isq_sq] at st
  rw [val_toL, isq_sq, show decide (val xs * val xs = val xs * val xs) = true from decide_eq_true rfl]
  have B10 := B9.trans (lb.mono B9.size)
  replace sa := sa.later lb
  replace sn := sn.later lb
  replace sq := sq.later lb
  replace sm := sm.later lb
  clear lb B9
  go_wp2_with fail
  refine (norm_k sa (K) (by omega) (by omega)).mono ?_
  rintro e w11 ⟨zo, zn, zc, rfl, sz, lz, lb⟩
  try simp only [val_toL] at sz
  have B11 := B10.trans (lb.mono B10.size)
  replace sa := sa.later lb
  replace sn := sn.later lb
  replace sq := sq.later lb
  replace sm := sm.later lb
  replace st := st.later lb
  clear lb B10
  go_wp2_with fail
  refine (same_k st sz rfl (by omega)).mono ?_
  rintro e w12 ⟨rfl, lb⟩
  have B12 := B11.trans (lb.mono B11.size)
  replace sa := sa.later lb
  replace sn := sn.later lb
  replace sq := sq.later lb
  replace sm := sm.later lb
  replace st := st.later lb
  replace sz := sz.later lb
  clear lb B11
  go_wp2
  go_ret
  exact ⟨rfl, B12⟩

theorem between_any (w0 : World) (ao : Option Addr) (an ac K : Nat) (xs : List Nat) (sa : Sl w0.heap.size w0 ao an ac xs) (la : an ≤ K) (hK : K ≤ 1048576) :
    Calls Try.prog 7 #[.slice ao an ac] w0 fun e w' => e = .returned (.bool true) ∧ Below w0.heap.size w0 w' := by
  by_cases h : isq (val xs) * isq (val xs) = val xs
  · exact between_yes w0 ao an ac K xs sa la hK h
  · exact between_no w0 ao an ac K xs sa la hK h

end Go.Proofs.Ythcclkjccaoniaa
