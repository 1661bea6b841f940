/- penumbralaw01.NatAdds: true, whatever the two naturals are (of at most K limbs), and the number. -/
import Derived.Test.YtpbpkemmmmjjlaaR2
namespace Go.Proofs.Ytpbpkemmmmjjlaa
open Go.RowKit M

section
variable {w : World} {ao bo : Option Addr} {n cap m bcap : Nat} {xs ys : List Nat}
theorem rsub_k (h : Sl w.heap.size w ao n cap xs) (h2 : Sl w.heap.size w bo m bcap ys) (i : Nat) (hi : n ≤ i) (hb : i ≤ 274877906944) (hm : m ≤ 274877906944) (hle : val ys ≤ val xs) :
    Calls Try.prog 11 #[.slice ao n cap, .slice bo m bcap] w (Gt w i (toL (val xs - val ys))) :=
  (rsub_any w ao bo n cap m bcap xs ys h h2 (by omega) (by omega) hle).mono fun _ _ ⟨a, k, c, he, s, b⟩ => ⟨a, k, c, he, s, s.ln (Nat.lt_of_le_of_lt (Nat.sub_le _ _) (h.bd hi)), b⟩
theorem sub_no_k (h : Sl w.heap.size w ao n cap xs) (h2 : Sl w.heap.size w bo m bcap ys) (hb : n ≤ 274877906944) (hm : m ≤ 274877906944) (hlt : val xs < val ys) :
    Calls Try.prog 10 #[.slice ao n cap, .slice bo m bcap] w fun e w' => e = .returned (.tuple #[.slice none 0 0, .bool false]) ∧ Below w.heap.size w w' :=
  (sub_no w ao bo n cap m bcap _ xs ys h h2 (by omega) (by omega) hlt).mono fun _ _ ⟨he, q⟩ => ⟨he, q.below _⟩
theorem rsub_no_k (h : Sl w.heap.size w ao n cap xs) (h2 : Sl w.heap.size w bo m bcap ys) (hb : n ≤ 274877906944) (hm : m ≤ 274877906944) (hlt : val xs < val ys) :
    Calls Try.prog 11 #[.slice ao n cap, .slice bo m bcap] w fun e w' => e = .returned (.tuple #[.slice none 0 0, .bool false]) ∧ Below w.heap.size w w' :=
  (rsub_no w ao bo n cap m bcap _ xs ys h h2 (by omega) (by omega) hlt).mono fun _ _ ⟨he, q⟩ => ⟨he, by rw [← q]; exact Below.refl _ _⟩
theorem radd_k (h : Sl w.heap.size w ao n cap xs) (h2 : Sl w.heap.size w bo m bcap ys) (i : Nat) (hi : n ≤ i) (hj : m ≤ i) (hb : i ≤ 274877906944) :
    Calls Try.prog 15 #[.slice ao n cap, .slice bo m bcap] w (Gv w (i + 1) (toL (val xs + val ys))) :=
  (radd_any w ao bo n cap m bcap xs ys h h2 (by omega) (by omega)).mono fun _ _ ⟨a, k, c, he, s, b⟩ => ⟨a, k, c, he, s, s.ln (bd_add (h.bd hi) (h2.bd hj)), b⟩
theorem rcmp_k (h : Sl w.heap.size w ao n cap xs) (h2 : Sl w.heap.size w bo m bcap ys) (hb : n ≤ 274877906944) (hm : m ≤ 274877906944) :
    Calls Try.prog 17 #[.slice ao n cap, .slice bo m bcap] w fun e w' => e = .returned (.int .i64 (cmpN (val xs) (val ys))) ∧ Below w.heap.size w w' :=
  (rcmp_any w ao bo n cap m bcap _ xs ys h h2 (by omega) (by omega)).mono fun _ _ ⟨he, q⟩ => ⟨he, by rw [← q]; exact Below.refl _ _⟩
theorem rnorm_k (h : Sl w.heap.size w ao n cap xs) (i : Nat) (hi : n ≤ i) (hb : i ≤ 274877906944) :
    Calls Try.prog 19 #[.slice ao n cap] w (Gv w i (toL (val xs))) :=
  (rnorm_any w ao n cap xs h (by omega)).mono fun _ _ ⟨a, k, c, he, s, b⟩ => ⟨a, k, c, he, s, s.ln (h.bd hi), b⟩
theorem two_limbs {x : Nat} (hx : x < 18446744073709551616) : x < Bp 2 := by rw [Bp_succ, Bp_succ, Bp_zero]; omega
theorem of_k {x : Nat} (hx : x < 18446744073709551616) : Calls Try.prog 20 #[.int .u64 (x : Int)] w (Gv w 2 (toL x)) :=
  (of_any w x hx).mono fun _ _ ⟨a, k, c, he, s, b⟩ => ⟨a, k, c, he, s, s.ln (two_limbs hx), b⟩
theorem rof_k {x : Nat} (hx : x < 18446744073709551616) : Calls Try.prog 21 #[.int .u64 (x : Int)] w (Gv w 2 (toL x)) :=
  (rof_any w x hx).mono fun _ _ ⟨a, k, c, he, s, b⟩ => ⟨a, k, c, he, s, s.ln (two_limbs hx), b⟩
end

set_option maxHeartbeats 4000000 in
theorem adds_le (w : World) (ao bo : Option Addr) (an ac bn bc K m : Nat) (xs ys : List Nat) (sa : Sl w.heap.size w ao an ac xs) (sb : Sl w.heap.size w bo bn bc ys) (la : an ≤ K) (lb0 : bn ≤ K) (hK : K ≤ 1048576) (hm : m < 18446744073709551616) (HL : Hid (val ys ≤ val xs)) :
    Calls Try.prog 3 #[.slice ao an ac, .slice bo bn bc, .int .u64 (m : Int)] w fun e w' => e = .returned (.bool true) ∧ Below w.heap.size w w' := by
  go_enter Try.func3, Try.ntmps3
  have B0 : Below w.heap.size w w := Below.refl _ _
  go_wp2_with fail
  refine (sub_k sa sb K (by omega) (by omega) (by omega) HL.out).mono ?_
  rintro e w1 ⟨do', dn, dc, rfl, sd, ld, lb⟩
  have B1 := B0.trans (lb.mono B0.size)
  replace sa := sa.later lb
  replace sb := sb.later lb
  clear lb B0
  go_wp2_with fail
  refine (rsub_k sa sb K (by omega) (by omega) (by omega) HL.out).mono ?_
  rintro e w2 ⟨eo, en, ec, rfl, se, le', lb⟩
  have B2 := B1.trans (lb.mono B1.size)
  replace sa := sa.later lb
  replace sb := sb.later lb
  replace sd := sd.later lb
  clear lb B1
  go_wp2_with fail
  refine (fixed_any _).mono ?_
  rintro e w3 ⟨rfl, lb⟩
  have B3 := B2.trans (lb.mono B2.size)
  replace sa := sa.later lb
  replace sb := sb.later lb
  replace sd := sd.later lb
  replace se := se.later lb
  clear lb B2
  go_wp2_with fail
  refine (add_k sa sb K (by omega) (by omega) (by omega)).mono ?_
  rintro e w4 ⟨to, tn, tc, rfl, st, lt, lb⟩
  try simp only [val_toL] at st
  have B4 := B3.trans (lb.mono B3.size)
  replace sa := sa.later lb
  replace sb := sb.later lb
  replace sd := sd.later lb
  replace se := se.later lb
  clear lb B3
  go_wp2_with fail
  refine (radd_k sa sb K (by omega) (by omega) (by omega)).mono ?_
  rintro e w5 ⟨uo, un, uc, rfl, su, lu, lb⟩
  try simp only [val_toL] at su
  have B5 := B4.trans (lb.mono B4.size)
  replace sa := sa.later lb
  replace sb := sb.later lb
  replace sd := sd.later lb
  replace se := se.later lb
  replace st := st.later lb
  clear lb B4
  go_wp2_with fail
  refine (same_k st su rfl (by omega)).mono ?_
  rintro e w6 ⟨rfl, lb⟩
  have B6 := B5.trans (lb.mono B5.size)
  replace sa := sa.later lb
  replace sb := sb.later lb
  replace sd := sd.later lb
  replace se := se.later lb
  clear lb B5 st su
  go_wp2_with fail
  refine (same_k sd se rfl (by omega)).mono ?_
  rintro e w7 ⟨rfl, lb⟩
  have B7 := B6.trans (lb.mono B6.size)
  replace sa := sa.later lb
  replace sb := sb.later lb
  clear lb B6 sd se
  go_wp2_with fail
  refine (cmp_k sa sb (by omega) (by omega)).mono ?_
  rintro e w8 ⟨rfl, lb⟩
  have B8 := B7.trans (lb.mono B7.size)
  replace sa := sa.later lb
  replace sb := sb.later lb
  clear lb B7
  go_wp2_with fail
  refine (rcmp_k sa sb (by omega) (by omega)).mono ?_
  rintro e w9 ⟨rfl, lb⟩
  have B9 := B8.trans (lb.mono B8.size)
  replace sa := sa.later lb
  replace sb := sb.later lb
  clear lb B8
  generalize cmpN (val xs) (val ys) = cm
  go_wp2_with fail
  refine (norm_k sa K (by omega) (by omega)).mono ?_
  rintro e w10 ⟨to, tn, tc, rfl, st, lt, lb⟩
  try simp only [val_toL] at st
  have B10 := B9.trans (lb.mono B9.size)
  replace sa := sa.later lb
  replace sb := sb.later lb
  clear lb B9
  go_wp2_with fail
  refine (rnorm_k sa K (by omega) (by omega)).mono ?_
  rintro e w11 ⟨uo, un, uc, rfl, su, lu, lb⟩
  try simp only [val_toL] at su
  have B11 := B10.trans (lb.mono B10.size)
  replace sa := sa.later lb
  replace sb := sb.later lb
  replace st := st.later lb
  clear lb B10
  go_wp2_with fail
  refine (same_k st su rfl (by omega)).mono ?_
  rintro e w12 ⟨rfl, lb⟩
  have B12 := B11.trans (lb.mono B11.size)
  replace sa := sa.later lb
  replace sb := sb.later lb
  clear lb B11 st su
  go_wp2_with fail
  refine (of_k (x := m) (by omega)).mono ?_
  rintro e w13 ⟨to, tn, tc, rfl, st, lt, lb⟩
  try simp only [val_toL] at st
  have B13 := B12.trans (lb.mono B12.size)
  replace sa := sa.later lb
  replace sb := sb.later lb
  clear lb B12
  go_wp2_with fail
  refine (rof_k (x := m) (by omega)).mono ?_
  rintro e w14 ⟨uo, un, uc, rfl, su, lu, lb⟩
  try simp only [val_toL] at su
  have B14 := B13.trans (lb.mono B13.size)
  replace sa := sa.later lb
  replace sb := sb.later lb
  replace st := st.later lb
  clear lb B13
  go_wp2_with fail
  refine (same_k st su rfl (by omega)).mono ?_
  rintro e w15 ⟨rfl, lb⟩
  have B15 := B14.trans (lb.mono B14.size)
  replace sa := sa.later lb
  replace sb := sb.later lb
  clear lb B14 st su
  go_wp2
  go_ret
  exact ⟨rfl, B15⟩

set_option maxHeartbeats 4000000 in
theorem adds_lt (w : World) (ao bo : Option Addr) (an ac bn bc K m : Nat) (xs ys : List Nat) (sa : Sl w.heap.size w ao an ac xs) (sb : Sl w.heap.size w bo bn bc ys) (la : an ≤ K) (lb0 : bn ≤ K) (hK : K ≤ 1048576) (hm : m < 18446744073709551616) (HL : Hid (val xs < val ys)) :
    Calls Try.prog 3 #[.slice ao an ac, .slice bo bn bc, .int .u64 (m : Int)] w fun e w' => e = .returned (.bool true) ∧ Below w.heap.size w w' := by
  go_enter Try.func3, Try.ntmps3
  have B0 : Below w.heap.size w w := Below.refl _ _
  go_wp2_with fail
  refine (sub_no_k sa sb (by omega) (by omega) HL.out).mono ?_
  rintro e w1 ⟨rfl, lb⟩
  have B1 := B0.trans (lb.mono B0.size)
  replace sa := sa.later lb
  replace sb := sb.later lb
  clear lb B0
  go_wp2_with fail
  refine (rsub_no_k sa sb (by omega) (by omega) HL.out).mono ?_
  rintro e w2 ⟨rfl, lb⟩
  have B2 := B1.trans (lb.mono B1.size)
  replace sa := sa.later lb
  replace sb := sb.later lb
  clear lb B1
  go_wp2_with fail
  refine (fixed_any _).mono ?_
  rintro e w3 ⟨rfl, lb⟩
  have B3 := B2.trans (lb.mono B2.size)
  replace sa := sa.later lb
  replace sb := sb.later lb
  clear lb B2
  go_wp2_with fail
  refine (add_k sa sb K (by omega) (by omega) (by omega)).mono ?_
  rintro e w4 ⟨to, tn, tc, rfl, st, lt, lb⟩
  try simp only [val_toL] at st
  have B4 := B3.trans (lb.mono B3.size)
  replace sa := sa.later lb
  replace sb := sb.later lb
  clear lb B3
  go_wp2_with fail
  refine (radd_k sa sb K (by omega) (by omega) (by omega)).mono ?_
  rintro e w5 ⟨uo, un, uc, rfl, su, lu, lb⟩
  try simp only [val_toL] at su
  have B5 := B4.trans (lb.mono B4.size)
  replace sa := sa.later lb
  replace sb := sb.later lb
  replace st := st.later lb
  clear lb B4
  go_wp2_with fail
  refine (same_k st su rfl (by omega)).mono ?_
  rintro e w6 ⟨rfl, lb⟩
  have B6 := B5.trans (lb.mono B5.size)
  replace sa := sa.later lb
  replace sb := sb.later lb
  clear lb B5 st su
  go_wp2_with fail
  refine (same_k (Sl.nil _ _) (Sl.nil _ _) rfl (by omega)).mono ?_
  rintro e w7 ⟨rfl, lb⟩
  have B7 := B6.trans (lb.mono B6.size)
  replace sa := sa.later lb
  replace sb := sb.later lb
  clear lb B6
  go_wp2_with fail
  refine (cmp_k sa sb (by omega) (by omega)).mono ?_
  rintro e w8 ⟨rfl, lb⟩
  have B8 := B7.trans (lb.mono B7.size)
  replace sa := sa.later lb
  replace sb := sb.later lb
  clear lb B7
  go_wp2_with fail
  refine (rcmp_k sa sb (by omega) (by omega)).mono ?_
  rintro e w9 ⟨rfl, lb⟩
  have B9 := B8.trans (lb.mono B8.size)
  replace sa := sa.later lb
  replace sb := sb.later lb
  clear lb B8
  generalize cmpN (val xs) (val ys) = cm
  go_wp2_with fail
  refine (norm_k sa K (by omega) (by omega)).mono ?_
  rintro e w10 ⟨to, tn, tc, rfl, st, lt, lb⟩
  try simp only [val_toL] at st
  have B10 := B9.trans (lb.mono B9.size)
  replace sa := sa.later lb
  replace sb := sb.later lb
  clear lb B9
  go_wp2_with fail
  refine (rnorm_k sa K (by omega) (by omega)).mono ?_
  rintro e w11 ⟨uo, un, uc, rfl, su, lu, lb⟩
  try simp only [val_toL] at su
  have B11 := B10.trans (lb.mono B10.size)
  replace sa := sa.later lb
  replace sb := sb.later lb
  replace st := st.later lb
  clear lb B10
  go_wp2_with fail
  refine (same_k st su rfl (by omega)).mono ?_
  rintro e w12 ⟨rfl, lb⟩
  have B12 := B11.trans (lb.mono B11.size)
  replace sa := sa.later lb
  replace sb := sb.later lb
  clear lb B11 st su
  go_wp2_with fail
  refine (of_k (x := m) (by omega)).mono ?_
  rintro e w13 ⟨to, tn, tc, rfl, st, lt, lb⟩
  try simp only [val_toL] at st
  have B13 := B12.trans (lb.mono B12.size)
  replace sa := sa.later lb
  replace sb := sb.later lb
  clear lb B12
  go_wp2_with fail
  refine (rof_k (x := m) (by omega)).mono ?_
  rintro e w14 ⟨uo, un, uc, rfl, su, lu, lb⟩
  try simp only [val_toL] at su
  have B14 := B13.trans (lb.mono B13.size)
  replace sa := sa.later lb
  replace sb := sb.later lb
  replace st := st.later lb
  clear lb B13
  go_wp2_with fail
  refine (same_k st su rfl (by omega)).mono ?_
  rintro e w15 ⟨rfl, lb⟩
  have B15 := B14.trans (lb.mono B14.size)
  replace sa := sa.later lb
  replace sb := sb.later lb
  clear lb B14 st su
  go_wp2
  go_ret
  exact ⟨rfl, B15⟩

theorem adds_any (w : World) (ao bo : Option Addr) (an ac bn bc K m : Nat) (xs ys : List Nat) (sa : Sl w.heap.size w ao an ac xs) (sb : Sl w.heap.size w bo bn bc ys) (la : an ≤ K) (lb0 : bn ≤ K) (hK : K ≤ 1048576) (hm : m < 18446744073709551616) :
    Calls Try.prog 3 #[.slice ao an ac, .slice bo bn bc, .int .u64 (m : Int)] w fun e w' => e = .returned (.bool true) ∧ Below w.heap.size w w' := by
  by_cases h : val ys ≤ val xs
  · exact adds_le w ao bo an ac bn bc K m xs ys sa sb la lb0 hK hm h
  · exact adds_lt w ao bo an ac bn bc K m xs ys sa sb la lb0 hK hm (show val xs < val ys from by omega)

end Go.Proofs.Ytpbpkemmmmjjlaa
