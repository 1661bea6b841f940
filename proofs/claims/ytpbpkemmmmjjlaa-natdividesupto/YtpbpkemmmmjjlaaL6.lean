/- penumbralaw01.NatMuls: true, whatever the two naturals are (of at most K limbs), and the number. -/
import Derived.Test.YtpbpkemmmmjjlaaR4
namespace Go.Proofs.Ytpbpkemmmmjjlaa
open Go.RowKit M

section
variable {w : World} {ao bo : Option Addr} {n cap m bcap : Nat} {xs ys : List Nat}
theorem rmul_k (h : Sl w.heap.size w ao n cap xs) (h2 : Sl w.heap.size w bo m bcap ys) (i j : Nat) (hi : n ≤ i) (hj : m ≤ j) (hb : i ≤ 274877906944) (hc : j ≤ 274877906944) :
    Calls Try.prog 25 #[.slice ao n cap, .slice bo m bcap] w (Gv w (i + j) (toL (val xs * val ys))) :=
  (rmul_any w ao bo n cap m bcap xs ys h h2 (by omega) (by omega)).mono fun _ _ ⟨a, k, c, he, s, b⟩ => ⟨a, k, c, he, s, s.ln (bd_mul (h.bd hi) (h2.bd hj)), b⟩
theorem rshl_k (h : Sl w.heap.size w ao n cap xs) (d i : Nat) (hi : n ≤ i) (hb : i ≤ 274877906944) (hd : d ≤ 65536) :
    Calls Try.prog 23 #[.slice ao n cap, .int .i64 (d : Int)] w (Gt w (i + 2049) (toL (val xs * 2 ^ d))) :=
  (rshl_any w ao n cap d xs h (by omega) hd).mono fun _ _ ⟨a, k, c, he, s, b⟩ => ⟨a, k, c, he, s, s.ln (bd_mul (h.bd hi) (pow_bd (by omega))), b⟩
theorem rbits_k (h : Sl w.heap.size w ao n cap xs) (hb : n ≤ 274877906944) :
    Calls Try.prog 27 #[.slice ao n cap] w fun e w' => e = .returned (.int .i64 (nb (val xs))) ∧ Below w.heap.size w w' := rbits_any w ao n cap xs h (by omega)
end
theorem shl_no_k (w : World) (ao : Option Addr) (n cap : Nat) (d : Int) (hd : d < 0 ∨ 65536 < d) :
    Calls Try.prog 22 #[.slice ao n cap, .int .i64 d] w fun e w' => e = .returned (.tuple #[.slice none 0 0, .bool false]) ∧ Below w.heap.size w w' :=
  (shl_no w ao n cap d hd).mono fun _ _ ⟨he, q⟩ => ⟨he, by rw [← q]; exact Below.refl _ _⟩
theorem rshl_no_k (w : World) (ao : Option Addr) (n cap : Nat) (d : Int) (hd : d < 0 ∨ 65536 < d) :
    Calls Try.prog 23 #[.slice ao n cap, .int .i64 d] w fun e w' => e = .returned (.tuple #[.slice none 0 0, .bool false]) ∧ Below w.heap.size w w' :=
  (rshl_no w ao n cap d hd).mono fun _ _ ⟨he, q⟩ => ⟨he, by rw [← q]; exact Below.refl _ _⟩

set_option maxHeartbeats 4000000 in
theorem muls_in (w : World) (ao bo : Option Addr) (an ac bn bc K : Nat) (xs ys : List Nat) (sa : Sl w.heap.size w ao an ac xs) (sb : Sl w.heap.size w bo bn bc ys) (la : an ≤ K) (lb0 : bn ≤ K) (hK : K ≤ 1048576) (d : Nat) (hd : d ≤ 65536) :
    Calls Try.prog 4 #[.slice ao an ac, .slice bo bn bc, .int .i64 (d : Int)] w fun e w' => e = .returned (.bool true) ∧ Below w.heap.size w w' := by
  go_enter Try.func4, Try.ntmps4
  have B0 : Below w.heap.size w w := Below.refl _ _
  go_wp2_with fail
  refine (shl_k sa d K (by omega) (by omega) hd).mono ?_
  rintro e w1 ⟨do', dn, dc, rfl, sd, ld, lb⟩
  have B1 := B0.trans (lb.mono B0.size)
  replace sa := sa.later lb
  replace sb := sb.later lb
  clear lb B0
  go_wp2_with fail
  refine (rshl_k sa d K (by omega) (by omega) hd).mono ?_
  rintro e w2 ⟨eo, en, ec, rfl, se, le', lb⟩
  have B2 := B1.trans (lb.mono B1.size)
  replace sa := sa.later lb
  replace sb := sb.later lb
  replace sd := sd.later lb
  clear lb B1
  go_wp2_with fail
  refine (fixed_any _).mono ?_
  rintro e w3 ⟨rfl, lb⟩
  have B3 := B2.trans (lb.mono B2.size)
  replace sa := sa.later lb
  replace sb := sb.later lb
  replace sd := sd.later lb
  replace se := se.later lb
  clear lb B2
  go_wp2_with fail
  refine (mul_k sa sb K K (by omega) (by omega) (by omega) (by omega)).mono ?_
  rintro e w4 ⟨to, tn, tc, rfl, st, lt, lb⟩
  try simp only [val_toL] at st
  have B4 := B3.trans (lb.mono B3.size)
  replace sa := sa.later lb
  replace sb := sb.later lb
  replace sd := sd.later lb
  replace se := se.later lb
  clear lb B3
  go_wp2_with fail
  refine (rmul_k sa sb K K (by omega) (by omega) (by omega) (by omega)).mono ?_
  rintro e w5 ⟨uo, un, uc, rfl, su, lu, lb⟩
  try simp only [val_toL] at su
  have B5 := B4.trans (lb.mono B4.size)
  replace sa := sa.later lb
  replace sb := sb.later lb
  replace sd := sd.later lb
  replace se := se.later lb
  replace st := st.later lb
  clear lb B4
  go_wp2_with fail
  refine (same_k st su rfl (by omega)).mono ?_
  rintro e w6 ⟨rfl, lb⟩
  have B6 := B5.trans (lb.mono B5.size)
  replace sa := sa.later lb
  replace sb := sb.later lb
  replace sd := sd.later lb
  replace se := se.later lb
  clear lb B5 st su
  go_wp2_with fail
  refine (same_k sd se rfl (by omega)).mono ?_
  rintro e w7 ⟨rfl, lb⟩
  have B7 := B6.trans (lb.mono B6.size)
  replace sa := sa.later lb
  replace sb := sb.later lb
  clear lb B6 sd se
  go_wp2_with fail
  refine (bits_k sa (by omega)).mono ?_
  rintro e w8 ⟨rfl, lb⟩
  have B8 := B7.trans (lb.mono B7.size)
  replace sa := sa.later lb
  replace sb := sb.later lb
  clear lb B7
  go_wp2_with fail
  refine (rbits_k sa (by omega)).mono ?_
  rintro e w9 ⟨rfl, lb⟩
  have B9 := B8.trans (lb.mono B8.size)
  replace sa := sa.later lb
  replace sb := sb.later lb
  clear lb B8
  generalize nb (val xs) = q
  go_wp2
  go_ret
  exact ⟨rfl, B9⟩

set_option maxHeartbeats 4000000 in
theorem muls_out (w : World) (ao bo : Option Addr) (an ac bn bc K : Nat) (xs ys : List Nat) (sa : Sl w.heap.size w ao an ac xs) (sb : Sl w.heap.size w bo bn bc ys) (la : an ≤ K) (lb0 : bn ≤ K) (hK : K ≤ 1048576) (d : Int) (hd : d < 0 ∨ 65536 < d) :
    Calls Try.prog 4 #[.slice ao an ac, .slice bo bn bc, .int .i64 d] w fun e w' => e = .returned (.bool true) ∧ Below w.heap.size w w' := by
  go_enter Try.func4, Try.ntmps4
  have B0 : Below w.heap.size w w := Below.refl _ _
  go_wp2_with fail
  refine (shl_no_k _ _ _ _ _ hd).mono ?_
  rintro e w1 ⟨rfl, lb⟩
  have B1 := B0.trans (lb.mono B0.size)
  replace sa := sa.later lb
  replace sb := sb.later lb
  clear lb B0
  go_wp2_with fail
  refine (rshl_no_k _ _ _ _ _ hd).mono ?_
  rintro e w2 ⟨rfl, lb⟩
  have B2 := B1.trans (lb.mono B1.size)
  replace sa := sa.later lb
  replace sb := sb.later lb
  clear lb B1
  go_wp2_with fail
  refine (fixed_any _).mono ?_
  rintro e w3 ⟨rfl, lb⟩
  have B3 := B2.trans (lb.mono B2.size)
  replace sa := sa.later lb
  replace sb := sb.later lb
  clear lb B2
  go_wp2_with fail
  refine (mul_k sa sb K K (by omega) (by omega) (by omega) (by omega)).mono ?_
  rintro e w4 ⟨to, tn, tc, rfl, st, lt, lb⟩
  try simp only [val_toL] at st
  have B4 := B3.trans (lb.mono B3.size)
  replace sa := sa.later lb
  replace sb := sb.later lb
  clear lb B3
  go_wp2_with fail
  refine (rmul_k sa sb K K (by omega) (by omega) (by omega) (by omega)).mono ?_
  rintro e w5 ⟨uo, un, uc, rfl, su, lu, lb⟩
  try simp only [val_toL] at su
  have B5 := B4.trans (lb.mono B4.size)
  replace sa := sa.later lb
  replace sb := sb.later lb
  replace st := st.later lb
  clear lb B4
  go_wp2_with fail
  refine (same_k st su rfl (by omega)).mono ?_
  rintro e w6 ⟨rfl, lb⟩
  have B6 := B5.trans (lb.mono B5.size)
  replace sa := sa.later lb
  replace sb := sb.later lb
  clear lb B5 st su
  go_wp2_with fail
  refine (same_k (Sl.nil _ _) (Sl.nil _ _) rfl (by omega)).mono ?_
  rintro e w7 ⟨rfl, lb⟩
  have B7 := B6.trans (lb.mono B6.size)
  replace sa := sa.later lb
  replace sb := sb.later lb
  clear lb B6
  go_wp2_with fail
  refine (bits_k sa (by omega)).mono ?_
  rintro e w8 ⟨rfl, lb⟩
  have B8 := B7.trans (lb.mono B7.size)
  replace sa := sa.later lb
  replace sb := sb.later lb
  clear lb B7
  go_wp2_with fail
  refine (rbits_k sa (by omega)).mono ?_
  rintro e w9 ⟨rfl, lb⟩
  have B9 := B8.trans (lb.mono B8.size)
  replace sa := sa.later lb
  replace sb := sb.later lb
  clear lb B8
  generalize nb (val xs) = q
  go_wp2
  go_ret
  exact ⟨rfl, B9⟩

theorem muls_any (w : World) (ao bo : Option Addr) (an ac bn bc K : Nat) (xs ys : List Nat) (sa : Sl w.heap.size w ao an ac xs) (sb : Sl w.heap.size w bo bn bc ys) (la : an ≤ K) (lb0 : bn ≤ K) (hK : K ≤ 1048576) (d : Int) :
    Calls Try.prog 4 #[.slice ao an ac, .slice bo bn bc, .int .i64 d] w fun e w' => e = .returned (.bool true) ∧ Below w.heap.size w w' := by
  by_cases h : d < 0 ∨ 65536 < d
  · exact muls_out w ao bo an ac bn bc K xs ys sa sb la lb0 hK d h
  · obtain ⟨d, rfl⟩ := Int.eq_ofNat_of_zero_le (show 0 ≤ d from by omega)
    exact muls_in w ao bo an ac bn bc K xs ys sa sb la lb0 hK d (by omega)

end Go.Proofs.Ytpbpkemmmmjjlaa
