/- penumbralaw01.NatBack: true, whatever the two naturals are (of at most K limbs). -/
import Derived.Test.YtpbpkemmmmjjlaaL0
namespace Go.Proofs.Ytpbpkemmmmjjlaa
open Go.RowKit M

set_option maxHeartbeats 4000000 in
theorem back_any (w : World) (ao bo : Option Addr) (an ac bn bc K : Nat) (xs ys : List Nat) (sa : Sl w.heap.size w ao an ac xs) (sb : Sl w.heap.size w bo bn bc ys)
    (la : an ≤ K) (lb0 : bn ≤ K) (hK : K ≤ 1048576) :
    Calls Try.prog 7 #[.slice ao an ac, .slice bo bn bc] w fun e w' => e = .returned (.bool true) ∧ Below w.heap.size w w' := by
  go_enter Try.func7, Try.ntmps7
  have B0 : Below w.heap.size w w := Below.refl _ _
  go_wp2_with fail
  refine (add_k sa sb (K) (by omega) (by omega) (by omega)).mono ?_
  rintro e w1 ⟨to, tn, tc, rfl, st, lt, lb⟩
  try simp only [val_toL] at st
  have B1 := B0.trans (lb.mono B0.size)
  replace sa := sa.later lb
  replace sb := sb.later lb
  clear lb B0
  go_wp2_with fail
  refine (sub_k st sb (K + 1) (by omega) (by omega) (by omega) (by rw [val_toL]; omega)).mono ?_
  rintro e w2 ⟨do', dn, dc, rfl, sd, ld, lb⟩
  rw [val_toL, Nat.add_sub_cancel] at sd
  have B2 := B1.trans (lb.mono B1.size)
  replace sa := sa.later lb
  replace sb := sb.later lb
  clear lb B1 st
  go_wp2_with fail
  refine (fixed_any _).mono ?_
  rintro e w3 ⟨rfl, lb⟩
  have B3 := B2.trans (lb.mono B2.size)
  replace sa := sa.later lb
  replace sb := sb.later lb
  replace sd := sd.later lb
  clear lb B2
  go_wp2_with fail
  refine (norm_k sa (K) (by omega) (by omega)).mono ?_
  rintro e w4 ⟨uo, un, uc, rfl, su, lu, lb⟩
  try simp only [val_toL] at su
  have B4 := B3.trans (lb.mono B3.size)
  replace sa := sa.later lb
  replace sb := sb.later lb
  replace sd := sd.later lb
  clear lb B3
  go_wp2_with fail
  refine (same_k sd su (by rfl) (by omega)).mono ?_
  rintro e w5 ⟨rfl, lb⟩
  have B5 := B4.trans (lb.mono B4.size)
  replace sa := sa.later lb
  replace sb := sb.later lb
  clear lb B4 sd su
  by_cases h0 : val ys = 0
  · have H0 : Hid _ := h0
    clear h0
    go_wp2_with fail
    refine (divMod_no _ _ _ _ _ _ _ _ _ _ sa sb (by omega) (by omega) H0.out).mono ?_
    rintro e w6 ⟨rfl, hw⟩
    subst hw
    go_wp2_with fail
    refine (norm_k sb K (by omega) (by omega)).mono ?_
    rintro e w6 ⟨zo, zn, zc, rfl, sz, lz, lb⟩
    try simp only [val_toL] at sz
    have B6 := B5.trans (lb.mono B5.size)
    replace sa := sa.later lb
    replace sb := sb.later lb
    clear lb B5
    have tz : zn = 0 := by have := sz.len; rw [H0.out, toL_zero] at this; exact this.symm
    have tb : ((zn : Int) == 0) = true := by simp [tz]
    clear tz lz
    go_wp2
    go_ret
    exact ⟨rfl, B6⟩
  · have H0 : Hid _ := h0
    clear h0
    go_wp2_with fail
    refine (divMod_k sa sb K (by omega) (by omega) (by omega) H0.out).mono ?_
    rintro e w6 ⟨qo, qn, qc, ro, rn, rc, rfl, sq, sr, lq, lr, lb⟩
    have B6 := B5.trans (lb.mono B5.size)
    replace sa := sa.later lb
    replace sb := sb.later lb
    clear lb B5
    go_wp2_with fail
    refine (norm_k sb K (by omega) (by omega)).mono ?_
    rintro e w7 ⟨zo, zn, zc, rfl, sz, lz, lb⟩
    try simp only [val_toL] at sz
    have B7 := B6.trans (lb.mono B6.size)
    replace sa := sa.later lb
    replace sb := sb.later lb
    replace sq := sq.later lb
    replace sr := sr.later lb
    clear lb B6
    have tz : 0 < zn := by rw [← sz.len]; exact toL_length_pos H0.out
    have tb : decide (0 < (zn : Int)) = true := by simp; omega
    go_wp2_with fail
    refine (cmp_k sr sb (by omega) (by omega)).mono ?_
    rintro e w8 ⟨rfl, lb⟩
    have B8 := B7.trans (lb.mono B7.size)
    replace sa := sa.later lb
    replace sb := sb.later lb
    replace sq := sq.later lb
    replace sr := sr.later lb
    replace sz := sz.later lb
    clear lb B7
    rw [val_toL, cmpN_lt (Nat.mod_lt _ (Nat.pos_of_ne_zero H0.out))]
    go_wp2_with fail
    refine (mul_k sq sb (K) (K) (by omega) (by omega) (by omega) (by omega)).mono ?_
    rintro e w9 ⟨to, tn, tc, rfl, st, lt, lb⟩
    try simp only [val_toL] at st
    have B9 := B8.trans (lb.mono B8.size)
    replace sa := sa.later lb
    replace sb := sb.later lb
    replace sq := sq.later lb
    replace sr := sr.later lb
    replace sz := sz.later lb
    clear lb B8
    go_wp2_with fail
    refine (add_k st sr (K + K) (by omega) (by omega) (by omega)).mono ?_
    rintro e w10 ⟨uo, un, uc, rfl, su, lu, lb⟩
    try simp only [val_toL] at su
    have B10 := B9.trans (lb.mono B9.size)
    replace sa := sa.later lb
    replace sb := sb.later lb
    replace sq := sq.later lb
    replace sr := sr.later lb
    replace sz := sz.later lb
    replace st := st.later lb
    clear lb B9
    go_wp2_with fail
    refine (norm_k sa (K) (by omega) (by omega)).mono ?_
    rintro e w11 ⟨vo, vn, vc, rfl, sv, lv, lb⟩
    try simp only [val_toL] at sv
    have B11 := B10.trans (lb.mono B10.size)
    replace sa := sa.later lb
    replace sb := sb.later lb
    replace sq := sq.later lb
    replace sr := sr.later lb
    replace sz := sz.later lb
    replace st := st.later lb
    replace su := su.later lb
    clear lb B10
    go_wp2_with fail
    refine (same_k su sv (by rw [Nat.mul_comm, Nat.div_add_mod]) (by omega)).mono ?_
    rintro e w12 ⟨rfl, lb⟩
    have B12 := B11.trans (lb.mono B11.size)
    replace sa := sa.later lb
    replace sb := sb.later lb
    replace sq := sq.later lb
    replace sr := sr.later lb
    replace sz := sz.later lb
    replace st := st.later lb
    replace su := su.later lb
    replace sv := sv.later lb
    clear lb B11
    go_wp2
    go_ret
    exact ⟨rfl, B12⟩

end Go.Proofs.Ytpbpkemmmmjjlaa
