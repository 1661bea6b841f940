/- penumbralaw02.fixed: true. -/
import Derived.Test.YthcclkjccaoniaaG1
namespace Go.Proofs.Ythcclkjccaoniaa
open Go.RowKit M

theorem q_s : isq (val [0, 1]) = 65536 := isq_eq (by simp [val]) (by simp [val])
theorem q_t : isq (val [8]) = 2 := isq_eq (by simp [val]) (by simp [val])
theorem r_s : toL (isq (val [0, 1])) = [65536] := by rw [q_s]; exact toL_is (by simp [val]) (lim1 (by omega)) (.inr (by simp))
theorem r_t : toL (isq (val [8])) = [2] := by rw [q_t]; exact toL_is (by simp [val]) (lim1 (by omega)) (.inr (by simp))
theorem r_so : decide (isq (val [0, 1]) * isq (val [0, 1]) = val [0, 1]) = true := by rw [q_s]; simp [val]
theorem r_tn : decide (isq (val [8]) * isq (val [8]) = val [8]) = false := by rw [q_t]; simp [val]
theorem r_g : toL (Nat.gcd (val [12]) (val [18])) = [6] := toL_is (by simp [val]) (lim1 (by omega)) (.inr (by simp))
theorem r_h : toL (Nat.gcd (val []) (val [0, 1])) = [0, 1] := toL_is (by simp [val]) (lim2 (by omega) (by omega)) (.inr (by simp))

set_option maxHeartbeats 2000000 in
theorem fixed2_any (w0 : World) : Calls Try.prog 9 #[] w0 fun e w' => e = .returned (.bool true) ∧ Below w0.heap.size w0 w' := by
  go_enter Try.func9, Try.ntmps9
  have B0 : Below w0.heap.size w0 w0 := Below.refl _ _
  go_wp2_with fail
  obtain ⟨sa, lb⟩ := lit1 w0 2 [0, 1] #[.int .u32 0, .int .u32 1] rfl (lim2 (by omega) (by omega)) rfl
  have B1 := B0.trans (lb.mono B0.size)
  clear lb B0
  generalize w0.alloc (.cells #[.int .u32 0, .int .u32 1] 32) = w1 at *
  refine (sqrt_k sa (2) (by omega) (by omega)).mono ?_
  rintro e w2 ⟨so, sn, sc, rfl, ss, ls, lb⟩
  rw [r_s] at ss
  rw [show decide (isq (val [0, 1]) * isq (val [0, 1]) = val [0, 1]) = true from r_so]
  have B2 := B1.trans (lb.mono B1.size)
  replace sa := sa.later lb
  clear lb B1
  go_wp2_with fail
  obtain ⟨sb, lb⟩ := lit1 w2 1 [8] #[.int .u32 8] rfl (lim1 (by omega)) rfl
  have B3 := B2.trans (lb.mono B2.size)
  replace sa := sa.later lb
  replace ss := ss.later lb
  clear lb B2
  generalize w2.alloc (.cells #[.int .u32 8] 32) = w3 at *
  refine (sqrt_k sb (1) (by omega) (by omega)).mono ?_
  rintro e w4 ⟨to, tn, tc, rfl, st, lt, lb⟩
  rw [r_t] at st
  rw [show decide (isq (val [8]) * isq (val [8]) = val [8]) = false from r_tn]
  have B4 := B3.trans (lb.mono B3.size)
  replace sa := sa.later lb
  replace ss := ss.later lb
  replace sb := sb.later lb
  clear lb B3
  go_wp2_with fail
  obtain ⟨sx, sy, lb⟩ := lit2 w4 1 1 [12] [18] #[.int .u32 12] #[.int .u32 18] rfl rfl (lim1 (by omega)) (lim1 (by omega)) rfl rfl
  have B5 := B4.trans (lb.mono B4.size)
  replace sa := sa.later lb
  replace ss := ss.later lb
  replace sb := sb.later lb
  replace st := st.later lb
  clear lb B4
  generalize (w4.alloc (.cells #[.int .u32 12] 32)).alloc (.cells #[.int .u32 18] 32) = w5 at *
  refine (gcd_k sx sy 1 (by omega) (by omega) (by omega)).mono ?_
  rintro e w6 ⟨go, gn, gc, rfl, sg, lg, lb⟩
  have B6 := B5.trans (lb.mono B5.size)
  replace sa := sa.later lb
  replace ss := ss.later lb
  replace sb := sb.later lb
  replace st := st.later lb
  clear lb B5 sx sy
  go_wp2_with fail
  obtain ⟨sz, lb⟩ := lit1 w6 1 [6] #[.int .u32 6] rfl (lim1 (by omega)) rfl
  have B7 := B6.trans (lb.mono B6.size)
  replace sa := sa.later lb
  replace ss := ss.later lb
  replace sb := sb.later lb
  replace st := st.later lb
  replace sg := sg.later lb
  clear lb B6
  generalize w6.alloc (.cells #[.int .u32 6] 32) = w7 at *
  refine (same_k sg sz r_g (by omega)).mono ?_
  rintro e w8 ⟨rfl, lb⟩
  have B8 := B7.trans (lb.mono B7.size)
  replace sa := sa.later lb
  replace ss := ss.later lb
  replace sb := sb.later lb
  replace st := st.later lb
  clear lb B7 sg sz
  go_wp2_with fail
  obtain ⟨sy, lb⟩ := lit1 w8 2 [0, 1] #[.int .u32 0, .int .u32 1] rfl (lim2 (by omega) (by omega)) rfl
  have B9 := B8.trans (lb.mono B8.size)
  replace sa := sa.later lb
  replace ss := ss.later lb
  replace sb := sb.later lb
  replace st := st.later lb
  clear lb B8
  generalize w8.alloc (.cells #[.int .u32 0, .int .u32 1] 32) = w9 at *
  refine (gcd_k (Sl.nil _ _) sy 2 (by omega) (by omega) (by omega)).mono ?_
  rintro e w10 ⟨go, gn, gc, rfl, sg, lg, lb⟩
  have B10 := B9.trans (lb.mono B9.size)
  replace sa := sa.later lb
  replace ss := ss.later lb
  replace sb := sb.later lb
  replace st := st.later lb
  clear lb B9 sy
  go_wp2_with fail
  obtain ⟨sz, lb⟩ := lit1 w10 2 [0, 1] #[.int .u32 0, .int .u32 1] rfl (lim2 (by omega) (by omega)) rfl
  have B11 := B10.trans (lb.mono B10.size)
  replace sa := sa.later lb
  replace ss := ss.later lb
  replace sb := sb.later lb
  replace st := st.later lb
  replace sg := sg.later lb
  clear lb B10
  generalize w10.alloc (.cells #[.int .u32 0, .int .u32 1] 32) = w11 at *
  refine (same_k sg sz r_h (by omega)).mono ?_
  rintro e w12 ⟨rfl, lb⟩
  have B12 := B11.trans (lb.mono B11.size)
  replace sa := sa.later lb
  replace ss := ss.later lb
  replace sb := sb.later lb
  replace st := st.later lb
  clear lb B11 sg sz
  go_wp2_with fail
  obtain ⟨sz, lb⟩ := lit1 w12 1 [65536] #[.int .u32 65536] rfl (lim1 (by omega)) rfl
  have B13 := B12.trans (lb.mono B12.size)
  replace sa := sa.later lb
  replace ss := ss.later lb
  replace sb := sb.later lb
  replace st := st.later lb
  clear lb B12
  generalize w12.alloc (.cells #[.int .u32 65536] 32) = w13 at *
  refine (same_k ss sz rfl (by omega)).mono ?_
  rintro e w14 ⟨rfl, lb⟩
  have B14 := B13.trans (lb.mono B13.size)
  replace sa := sa.later lb
  replace sb := sb.later lb
  replace st := st.later lb
  clear lb B13 ss sz
  go_wp2_with fail
  obtain ⟨sz, lb⟩ := lit1 w14 1 [2] #[.int .u32 2] rfl (lim1 (by omega)) rfl
  have B15 := B14.trans (lb.mono B14.size)
  replace sa := sa.later lb
  replace sb := sb.later lb
  replace st := st.later lb
  clear lb B14
  generalize w14.alloc (.cells #[.int .u32 2] 32) = w15 at *
  refine (same_k st sz rfl (by omega)).mono ?_
  rintro e w16 ⟨rfl, lb⟩
  have B16 := B15.trans (lb.mono B15.size)
  replace sa := sa.later lb
  replace sb := sb.later lb
  clear lb B15 st sz
  go_wp2
  go_ret
  exact ⟨rfl, B16⟩

end Go.Proofs.Ythcclkjccaoniaa
