/- penumbralaw02.divides: whether it does. -/
import Derived.Test.YthcclkjccaoniaaT0
namespace Go.Proofs.Ythcclkjccaoniaa
open Go.RowKit M

section
variable {w : World} {ao bo : Option Addr} {n cap m bcap : Nat} {xs ys : List Nat}
theorem divMod_no_k (h : Sl w.heap.size w ao n cap xs) (h2 : Sl w.heap.size w bo m bcap ys) (hb : n ≤ 274877906944) (hm : m ≤ 274877906944) (h0 : val ys = 0) :
    Calls Try.prog 17 #[.slice ao n cap, .slice bo m bcap] w fun e w' => e = .returned (.tuple #[.slice none 0 0, .slice none 0 0, .bool false]) ∧ Below w.heap.size w w' :=
  (divMod_no w ao bo n cap m bcap _ xs ys h h2 (by omega) (by omega) h0).mono fun _ _ ⟨he, q⟩ => ⟨he, by rw [← q]; exact Below.refl _ _⟩
end

set_option maxHeartbeats 1000000 in
theorem divides_zero (w0 : World) (do' ao : Option Addr) (dn dc an ac K : Nat) (xs ys : List Nat) (sd : Sl w0.heap.size w0 do' dn dc xs) (sa : Sl w0.heap.size w0 ao an ac ys) (ld : dn ≤ K) (la : an ≤ K) (hK : K ≤ 16777216) (H0 : Hid (val xs = 0)) :
    Calls Try.prog 15 #[.slice do' dn dc, .slice ao an ac] w0 fun e w' => e = .returned (.bool (decide (val xs ∣ val ys))) ∧ Below w0.heap.size w0 w' := by
  go_enter Try.func15, Try.ntmps15
  have B0 : Below w0.heap.size w0 w0 := Below.refl _ _
  go_wp2_with fail
  refine (divMod_no_k sa sd (by omega) (by omega) H0.out).mono ?_
  rintro e w1 ⟨rfl, lb⟩
  have B1 := B0.trans (lb.mono B0.size)
  replace sd := sd.later lb
  replace sa := sa.later lb
  clear lb B0
  go_wp2_with fail
  refine (norm_k sa (274877906944) (by omega) (by omega)).mono ?_
  rintro e w2 ⟨po, pn, pc, rfl, sp, lp, lb⟩
  try simp only [val_toL] at sp
  have B2 := B1.trans (lb.mono B1.size)
  replace sd := sd.later lb
  replace sa := sa.later lb
  clear lb B1
  by_cases ha : val ys = 0
  · have tp : pn = 0 := by have := sp.len; rw [ha, toL_zero] at this; exact this.symm
    have tb : ((pn : Int) == 0) = true := by simp [tp]
    have HA : Hid _ := ha
    clear ha tp
    go_wp2_with fail
    refine (norm_k sd (274877906944) (by omega) (by omega)).mono ?_
    rintro e w3 ⟨qo, qn, qc, rfl, sq, lq, lb⟩
    try simp only [val_toL] at sq
    have B3 := B2.trans (lb.mono B2.size)
    replace sd := sd.later lb
    replace sa := sa.later lb
    replace sp := sp.later lb
    clear lb B2
    have tq : qn = 0 := by have := sq.len; rw [H0.out, toL_zero] at this; exact this.symm
    have tc : ((qn : Int) == 0) = true := by simp [tq]
    clear tq
    go_wp2
    go_ret
    refine ⟨?_, B3⟩
    rw [decide_eq_true (show val xs ∣ val ys from by rw [HA.out]; exact Nat.dvd_zero _)]; rfl
  · have tp : pn ≠ 0 := by rw [← sp.len]; exact Nat.ne_of_gt (toL_length_pos ha)
    have tb : ((pn : Int) == 0) = false := by rw [beq_eq_false_iff_ne]; omega
    have HA : Hid _ := ha
    clear ha tp
    go_wp2
    go_ret
    refine ⟨?_, B2⟩
    rw [decide_eq_false (show ¬ val xs ∣ val ys from fun h => HA.out (by rw [H0.out] at h; exact Nat.eq_zero_of_zero_dvd h))]; rfl

set_option maxHeartbeats 1000000 in
theorem divides_pos (w0 : World) (do' ao : Option Addr) (dn dc an ac K : Nat) (xs ys : List Nat) (sd : Sl w0.heap.size w0 do' dn dc xs) (sa : Sl w0.heap.size w0 ao an ac ys) (ld : dn ≤ K) (la : an ≤ K) (hK : K ≤ 16777216) (H0 : Hid (val xs ≠ 0)) :
    Calls Try.prog 15 #[.slice do' dn dc, .slice ao an ac] w0 fun e w' => e = .returned (.bool (decide (val xs ∣ val ys))) ∧ Below w0.heap.size w0 w' := by
  go_enter Try.func15, Try.ntmps15
  have B0 : Below w0.heap.size w0 w0 := Below.refl _ _
  go_wp2_with fail
  refine (divMod_k sa sd K (by omega) (by omega) (by omega) H0.out).mono ?_
  rintro e w1 ⟨qo, qn, qc, ro, rn, rc, rfl, sq, sr, lq, lr, lb⟩
  have B1 := B0.trans (lb.mono B0.size)
  replace sd := sd.later lb
  replace sa := sa.later lb
  clear lb B0
  by_cases hr : val ys % val xs = 0
  · have tr : rn = 0 := by have := sr.len; rw [hr, toL_zero] at this; exact this.symm
    have tb : ((rn : Int) == 0) = true := by simp [tr]
    have HR : Hid _ := hr
    clear hr tr
    go_wp2
    go_ret
    refine ⟨?_, B1⟩
    rw [decide_eq_true (show val xs ∣ val ys from Nat.dvd_of_mod_eq_zero HR.out)]; rfl
  · have tr : rn ≠ 0 := by rw [← sr.len]; exact Nat.ne_of_gt (toL_length_pos hr)
    have tb : ((rn : Int) == 0) = false := by rw [beq_eq_false_iff_ne]; omega
    have HR : Hid _ := hr
    clear hr tr
    go_wp2_with fail
    refine (norm_k sa (274877906944) (by omega) (by omega)).mono ?_
    rintro e w2 ⟨po, pn, pc, rfl, sp, lp, lb⟩
    try simp only [val_toL] at sp
    have B2 := B1.trans (lb.mono B1.size)
    replace sd := sd.later lb
    replace sa := sa.later lb
    replace sq := sq.later lb
    replace sr := sr.later lb
    clear lb B1
    have tp : pn ≠ 0 := by
      rw [← sp.len]; refine Nat.ne_of_gt (toL_length_pos ?_)
      intro h; exact HR.out (by rw [h, Nat.zero_mod])
    have tc : ((pn : Int) == 0) = false := by rw [beq_eq_false_iff_ne]; omega
    clear tp
    go_wp2
    go_ret
    refine ⟨?_, B2⟩
    rw [decide_eq_false (show ¬ val xs ∣ val ys from fun h => HR.out (Nat.mod_eq_zero_of_dvd h))]; rfl

theorem divides_k {w : World} {do' ao : Option Addr} {dn dc an ac : Nat} {xs ys : List Nat} (sd : Sl w.heap.size w do' dn dc xs) (sa : Sl w.heap.size w ao an ac ys) (K : Nat) (ld : dn ≤ K) (la : an ≤ K) (hK : K ≤ 16777216) :
    Calls Try.prog 15 #[.slice do' dn dc, .slice ao an ac] w fun e w' => e = .returned (.bool (decide (val xs ∣ val ys))) ∧ Below w.heap.size w w' := by
  by_cases h : val xs = 0
  · exact divides_zero w do' ao dn dc an ac K xs ys sd sa ld la hK h
  · exact divides_pos w do' ao dn dc an ac K xs ys sd sa ld la hK h

end Go.Proofs.Ythcclkjccaoniaa
