/- penumbralaw02.RootGcds: true. -/
import Derived.Test.YthcclkjccaoniaaT0
import Derived.Test.YthcclkjccaoniaaS1
namespace Go.Proofs.Ythcclkjccaoniaa
open Go.RowKit M

set_option maxHeartbeats 2000000 in
theorem gcds_any (w0 : World) (ao bo : Option Addr) (an ac bn bc K : Nat) (xs ys : List Nat) (sa : Sl w0.heap.size w0 ao an ac xs) (sb : Sl w0.heap.size w0 bo bn bc ys) (la : an ≤ K) (lb0 : bn ≤ K) (hK : K ≤ 1048576) :
    Calls Try.prog 3 #[.slice ao an ac, .slice bo bn bc] w0 fun e w' => e = .returned (.bool true) ∧ Below w0.heap.size w0 w' := by
  go_enter Try.func3, Try.ntmps3
  have B0 : Below w0.heap.size w0 w0 := Below.refl _ _
  go_wp2_with fail
  refine (fixed2_any _).mono ?_
  rintro e w1 ⟨rfl, lb⟩
  have B1 := B0.trans (lb.mono B0.size)
  replace sa := sa.later lb
  replace sb := sb.later lb
  clear lb B0
  go_wp2_with fail
  refine (gcd_k sa sb (K) (by omega) (by omega) (by omega)).mono ?_
  rintro e w2 ⟨go, gn, gc, rfl, sg, lg, lb⟩
  try simp only [val_toL] at sg
  have B2 := B1.trans (lb.mono B1.size)
  replace sa := sa.later lb
  replace sb := sb.later lb
  clear lb B1
  go_wp2_with fail
  refine (rgcd_any _ _ _ _ _ _ _ K _ _ sa sb (by omega) (by omega) hK).mono ?_
  rintro e w3 ⟨ho, hn, hc, rfl, sh, lh, lb⟩
  try simp only [val_toL] at sh
  have B3 := B2.trans (lb.mono B2.size)
  replace sa := sa.later lb
  replace sb := sb.later lb
  replace sg := sg.later lb
  clear lb B2
  go_wp2_with fail
  refine (same_k sg sh rfl (by omega)).mono ?_
  rintro e w4 ⟨rfl, lb⟩
  have B4 := B3.trans (lb.mono B3.size)
  replace sa := sa.later lb
  replace sb := sb.later lb
  replace sg := sg.later lb
  replace sh := sh.later lb
  clear lb B3
  go_wp2
  go_ret
  exact ⟨rfl, B4⟩

end Go.Proofs.Ythcclkjccaoniaa
