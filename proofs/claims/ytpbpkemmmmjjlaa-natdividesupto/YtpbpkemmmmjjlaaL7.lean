/- penumbralaw01.NatDivides: true, whatever the two naturals are (of at most K limbs). -/
import Derived.Test.YtpbpkemmmmjjlaaR6
namespace Go.Proofs.Ytpbpkemmmmjjlaa
open Go.RowKit M

section
variable {w : World} {ao bo : Option Addr} {n cap m bcap : Nat} {xs ys : List Nat}
theorem rdivMod_k (h : Sl w.heap.size w ao n cap xs) (h2 : Sl w.heap.size w bo m bcap ys) (i : Nat) (hi : n ≤ i) (hj : m ≤ i) (hb : i ≤ 1048576) (h0 : val ys ≠ 0) :
    Calls Try.prog 29 #[.slice ao n cap, .slice bo m bcap] w fun e w' => ∃ qo qn qc ro rn rc, e = .returned (.tuple #[.slice qo qn qc, .slice ro rn rc, .bool true]) ∧
      Sl w'.heap.size w' qo qn qc (toL (val xs / val ys)) ∧ Sl w'.heap.size w' ro rn rc (toL (val xs % val ys)) ∧ qn ≤ i ∧ rn ≤ i ∧ Below w.heap.size w w' :=
  (rdivMod_any w ao bo n cap m bcap xs ys h h2 (by omega) (by omega) h0).mono fun _ _ ⟨a, k, c, a', k', c', he, s, s', b⟩ =>
    ⟨a, k, c, a', k', c', he, s, s', s.ln (Nat.lt_of_le_of_lt (Nat.div_le_self _ _) (h.bd hi)), s'.ln (Nat.lt_of_le_of_lt (Nat.mod_le _ _) (h.bd hi)), b⟩
theorem divMod_no_k (h : Sl w.heap.size w ao n cap xs) (h2 : Sl w.heap.size w bo m bcap ys) (hb : n ≤ 274877906944) (hm : m ≤ 274877906944) (h0 : val ys = 0) :
    Calls Try.prog 28 #[.slice ao n cap, .slice bo m bcap] w fun e w' => e = .returned (.tuple #[.slice none 0 0, .slice none 0 0, .bool false]) ∧ Below w.heap.size w w' :=
  (divMod_no w ao bo n cap m bcap _ xs ys h h2 (by omega) (by omega) h0).mono fun _ _ ⟨he, q⟩ => ⟨he, by rw [← q]; exact Below.refl _ _⟩
theorem rdivMod_no_k (h2 : Sl w.heap.size w bo m bcap ys) (hm : m ≤ 274877906944) (h0 : val ys = 0) :
    Calls Try.prog 29 #[.slice ao n cap, .slice bo m bcap] w fun e w' => e = .returned (.tuple #[.slice none 0 0, .slice none 0 0, .bool false]) ∧ Below w.heap.size w w' :=
  (rdivMod_no w ao bo n cap m bcap ys h2 (by omega) h0).mono fun _ _ ⟨he, q⟩ => ⟨he, by rw [← q]; exact Below.refl _ _⟩
end

set_option maxHeartbeats 4000000 in
theorem divs_pos (w : World) (ao bo : Option Addr) (an ac bn bc K : Nat) (xs ys : List Nat) (sa : Sl w.heap.size w ao an ac xs) (sb : Sl w.heap.size w bo bn bc ys) (la : an ≤ K) (lb0 : bn ≤ K) (hK : K ≤ 1048576) (H0 : Hid (val ys ≠ 0)) :
    Calls Try.prog 5 #[.slice ao an ac, .slice bo bn bc] w fun e w' => e = .returned (.bool true) ∧ Below w.heap.size w w' := by
  go_enter Try.func5, Try.ntmps5
  have B0 : Below w.heap.size w w := Below.refl _ _
  go_wp2_with fail
  refine (divMod_k sa sb K (by omega) (by omega) (by omega) H0.out).mono ?_
  rintro e w1 ⟨qo, qn, qc, ro, rn, rc, rfl, sq, sr, lq, lr, lb⟩
  have B1 := B0.trans (lb.mono B0.size)
  replace sa := sa.later lb
  replace sb := sb.later lb
  clear lb B0
  go_wp2_with fail
  refine (rdivMod_k sa sb K (by omega) (by omega) hK H0.out).mono ?_
  rintro e w2 ⟨so, sn, sc', to', tn, tc, rfl, ss, st, ls, lt, lb⟩
  have B2 := B1.trans (lb.mono B1.size)
  replace sa := sa.later lb
  replace sb := sb.later lb
  replace sq := sq.later lb
  replace sr := sr.later lb
  clear lb B1
  go_wp2_with fail
  refine (fixed_any _).mono ?_
  rintro e w3 ⟨rfl, lb⟩
  have B3 := B2.trans (lb.mono B2.size)
  replace sa := sa.later lb
  replace sb := sb.later lb
  replace sq := sq.later lb
  replace sr := sr.later lb
  replace ss := ss.later lb
  replace st := st.later lb
  clear lb B2
  go_wp2_with fail
  refine (same_k sq ss rfl (by omega)).mono ?_
  rintro e w4 ⟨rfl, lb⟩
  have B4 := B3.trans (lb.mono B3.size)
  replace sa := sa.later lb
  replace sb := sb.later lb
  replace sr := sr.later lb
  replace st := st.later lb
  clear lb B3 sq ss
  go_wp2_with fail
  refine (same_k sr st rfl (by omega)).mono ?_
  rintro e w5 ⟨rfl, lb⟩
  have B5 := B4.trans (lb.mono B4.size)
  replace sa := sa.later lb
  replace sb := sb.later lb
  clear lb B4 sr st
  go_wp2
  go_ret
  exact ⟨rfl, B5⟩

set_option maxHeartbeats 4000000 in
theorem divs_zero (w : World) (ao bo : Option Addr) (an ac bn bc K : Nat) (xs ys : List Nat) (sa : Sl w.heap.size w ao an ac xs) (sb : Sl w.heap.size w bo bn bc ys) (la : an ≤ K) (lb0 : bn ≤ K) (hK : K ≤ 1048576) (H0 : Hid (val ys = 0)) :
    Calls Try.prog 5 #[.slice ao an ac, .slice bo bn bc] w fun e w' => e = .returned (.bool true) ∧ Below w.heap.size w w' := by
  go_enter Try.func5, Try.ntmps5
  have B0 : Below w.heap.size w w := Below.refl _ _
  go_wp2_with fail
  refine (divMod_no_k sa sb (by omega) (by omega) H0.out).mono ?_
  rintro e w1 ⟨rfl, lb⟩
  have B1 := B0.trans (lb.mono B0.size)
  replace sa := sa.later lb
  replace sb := sb.later lb
  clear lb B0
  go_wp2_with fail
  refine (rdivMod_no_k sb (by omega) H0.out).mono ?_
  rintro e w2 ⟨rfl, lb⟩
  have B2 := B1.trans (lb.mono B1.size)
  replace sa := sa.later lb
  replace sb := sb.later lb
  clear lb B1
  go_wp2_with fail
  refine (fixed_any _).mono ?_
  rintro e w3 ⟨rfl, lb⟩
  have B3 := B2.trans (lb.mono B2.size)
  replace sa := sa.later lb
  replace sb := sb.later lb
  clear lb B2
  go_wp2_with fail
  refine (same_k (Sl.nil _ _) (Sl.nil _ _) rfl (by omega)).mono ?_
  rintro e w4 ⟨rfl, lb⟩
  have B4 := B3.trans (lb.mono B3.size)
  replace sa := sa.later lb
  replace sb := sb.later lb
  clear lb B3
  go_wp2_with fail
  refine (same_k (Sl.nil _ _) (Sl.nil _ _) rfl (by omega)).mono ?_
  rintro e w5 ⟨rfl, lb⟩
  have B5 := B4.trans (lb.mono B4.size)
  replace sa := sa.later lb
  replace sb := sb.later lb
  clear lb B4
  go_wp2
  go_ret
  exact ⟨rfl, B5⟩

theorem divs_any (w : World) (ao bo : Option Addr) (an ac bn bc K : Nat) (xs ys : List Nat) (sa : Sl w.heap.size w ao an ac xs) (sb : Sl w.heap.size w bo bn bc ys) (la : an ≤ K) (lb0 : bn ≤ K) (hK : K ≤ 1048576) :
    Calls Try.prog 5 #[.slice ao an ac, .slice bo bn bc] w fun e w' => e = .returned (.bool true) ∧ Below w.heap.size w w' := by
  by_cases h : val ys = 0
  · exact divs_zero w ao bo an ac bn bc K xs ys sa sb la lb0 hK h
  · exact divs_pos w ao bo an ac bn bc K xs ys sa sb la lb0 hK h

end Go.Proofs.Ytpbpkemmmmjjlaa
