/- penumbralaw02.RootSquares: true. -/
import Derived.Test.YthcclkjccaoniaaT0
import Derived.Test.YthcclkjccaoniaaS2
namespace Go.Proofs.Ythcclkjccaoniaa
open Go.RowKit M

set_option maxHeartbeats 2000000 in
theorem squares_any (w0 : World) (ao : Option Addr) (an ac K : Nat) (xs : List Nat) (sa : Sl w0.heap.size w0 ao an ac xs) (la : an ≤ K) (hK : K ≤ 1048576) :
    Calls Try.prog 4 #[.slice ao an ac] w0 fun e w' => e = .returned (.bool true) ∧ Below w0.heap.size w0 w' := by
  go_enter Try.func4, Try.ntmps4
  have B0 : Below w0.heap.size w0 w0 := Below.refl _ _
  go_wp2_with fail
  refine (sqrt_k sa (K) (by omega) (by omega)).mono ?_
  rintro e w1 ⟨so, sn, sc, rfl, ss, ls, lb⟩
  have B1 := B0.trans (lb.mono B0.size)
  replace sa := sa.later lb
  clear lb B0
  go_wp2_with fail
  refine (rsqrt_any _ _ _ _ K _ sa (by omega) hK).mono ?_
  rintro e w2 ⟨to', tn, tc, rfl, st, lt, lb⟩
  have B2 := B1.trans (lb.mono B1.size)
  replace sa := sa.later lb
  replace ss := ss.later lb
  clear lb B1
  generalize decide (isq (val xs) * isq (val xs) = val xs) = d at *
  go_wp2_with fail
  refine (fixed2_any _).mono ?_
  rintro e w3 ⟨rfl, lb⟩
  have B3 := B2.trans (lb.mono B2.size)
  replace sa := sa.later lb
  replace ss := ss.later lb
  replace st := st.later lb
  clear lb B2
  go_wp2_with fail
  refine (same_k ss st rfl (by omega)).mono ?_
  rintro e w4 ⟨rfl, lb⟩
  have B4 := B3.trans (lb.mono B3.size)
  replace sa := sa.later lb
  replace ss := ss.later lb
  replace st := st.later lb
  clear lb B3
  have td : (d == d) = true := by simp
  go_wp2
  go_ret
  exact ⟨rfl, B4⟩

end Go.Proofs.Ythcclkjccaoniaa
