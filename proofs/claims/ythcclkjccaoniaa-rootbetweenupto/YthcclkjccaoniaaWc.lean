/- nat.DivMod. -/
import Derived.Test.YthcclkjccaoniaaWb
namespace Go.Proofs.Ythcclkjccaoniaa
open Go.RowKit M

set_option maxHeartbeats 400000 in
theorem divMod_no (w : World) (ao bo : Option Addr) (n cap n2 cap2 N : Nat) (xs ys : List Nat) (h : Sl N w ao n cap xs) (h2 : Sl N w bo n2 cap2 ys) (hlen : n ≤ 549755813888) (hlen2 : n2 ≤ 549755813888) (h0 : val ys = 0) :
    Calls Try.prog 17 #[.slice ao n cap, .slice bo n2 cap2] w fun e w' => e = .returned (.tuple #[.slice none 0 0, .slice none 0 0, .bool false]) ∧ w = w' := by
  go_enter Try.func17, Try.ntmps17
  go_wp2_with fail
  refine (trimmed_any _ _ ao n cap xs h (by omega)).mono ?_
  rintro e w1 ⟨rfl, a1, n1, c1, rfl, s1, l1⟩
  go_wp2_with fail
  refine (trimmed_any _ _ bo n2 cap2 ys h2 (by omega)).mono ?_
  rintro e w1 ⟨rfl, a2, m1, c2, rfl, s2, l2⟩
  have hm : m1 = 0 := by have := s2.len; rw [h0, toL_zero] at this; exact this.symm
  have hmb : ((m1 : Int) == 0) = true := by simp [hm]
  clear h0 hm
  go_wp2
  go_ret3
  exact ⟨rfl, rfl⟩

set_option maxHeartbeats 1000000 in
theorem divMod_any (w : World) (ao bo : Option Addr) (n cap n2 cap2 : Nat) (xs ys : List Nat) (h : Sl w.heap.size w ao n cap xs) (h2 : Sl w.heap.size w bo n2 cap2 ys) (hlen : n ≤ 549755813888) (hlen2 : n2 ≤ 549755813888) (h0 : val ys ≠ 0) :
    Calls Try.prog 17 #[.slice ao n cap, .slice bo n2 cap2] w fun e w' => ∃ qo qn qc ro rn rc, e = .returned (.tuple #[.slice qo qn qc, .slice ro rn rc, .bool true]) ∧
      Sl w'.heap.size w' qo qn qc (toL (val xs / val ys)) ∧ Sl w'.heap.size w' ro rn rc (toL (val xs % val ys)) ∧ Below w.heap.size w w' := by
  go_enter Try.func17, Try.ntmps17
  go_wp2_with fail
  refine (trimmed_any _ _ ao n cap xs h (by omega)).mono ?_
  rintro e w1 ⟨rfl, a1, n1, c1, rfl, s1, l1⟩
  go_wp2_with fail
  refine (trimmed_any _ _ bo n2 cap2 ys h2 (by omega)).mono ?_
  rintro e w1 ⟨rfl, a2, m1, c2, rfl, s2, l2⟩
  clear h h2
  have hm : m1 ≠ 0 := by
    intro hm
    have := s2.len
    rw [hm] at this
    exact h0 (toL_length_zero.1 this)
  have hmb : ((m1 : Int) == 0) = false := by simp [hm]
  have H0 : Hid _ := h0
  clear h0
  go_wp2_with fail
  refine (cmp_any _ _ _ _ _ _ _ _ _ _ s1 s2 (by omega) (by omega)).mono ?_
  rintro e w1 ⟨rfl, hq⟩
  rw [val_toL, val_toL]
  have t1 : Sl w1.heap.size w1 a1 n1 c1 (toL (val xs)) := by rw [hq.size]; exact hq.sl s1
  have t2 : Sl w1.heap.size w1 a2 m1 c2 (toL (val ys)) := by rw [hq.size]; exact hq.sl s2
  have hbq : ∀ u, Below w1.heap.size w1 u → Below w.heap.size w u := fun u hu => (hq.below _).trans (hu.mono (by rw [hq.size]; exact Nat.le_refl _))
  have HBQ : Hid _ := hbq
  clear s1 s2 hbq
  by_cases hlt : val xs < val ys
  · rw [cmpN_lt hlt]
    have D1 : Hid (val xs / val ys = 0) := Nat.div_eq_of_lt hlt
    have D2 : Hid (val xs % val ys = val xs) := Nat.mod_eq_of_lt hlt
    clear hlt
    go_wp2_with fail
    refine (norm_any w1 a1 n1 c1 _ t1 (by omega)).mono ?_
    rintro e w2 ⟨a3, n3, c3, rfl, s3, b3⟩
    rw [val_toL] at s3
    go_wp2
    go_ret3
    rw [D1.out, D2.out, toL_zero]
    exact ⟨none, 0, 0, a3, n3, c3, rfl, Sl.nil _ _, s3, HBQ.out _ b3⟩
  · have hcm : 0 ≤ cmpN (val xs) (val ys) := by unfold cmpN; split <;> (try split) <;> omega
    have hlen3 : m1 ≤ n1 := by
      rw [← t1.len, ← t2.len]
      by_cases hh : (toL (val xs)).length < (toL (val ys)).length
      · have := toL_len_lt hh; omega
      · omega
    generalize cmpN (val xs) (val ys) = cm at hcm
    clear hlt
    by_cases h1 : m1 = 1
    · have h1b : ((m1 : Int) == 1) = true := by simp [h1]
      obtain ⟨b, o, x, rfl, hb, hcell, hx, HX⟩ := t2.cell 0 (by omega)
      rw [Nat.add_zero] at hcell
      have hvx : val ys = x := by
        have e1 := val_take_succ (xs := toL (val ys)) (k := 0) (by rw [t2.len]; omega)
        rw [List.take_of_length_le (by rw [t2.len]; omega), val_toL, ← HX.out, Bp_zero, val_take_zero] at e1
        omega
      have HVX : Hid _ := hvx
      have hx0 : 0 < x := by rw [← hvx]; exact Nat.pos_of_ne_zero H0.out
      have hm0 : (0 : Int) < (m1 : Int) := by omega
      clear hvx h1
      go_wp2_with fail
      refine (divByLimb_any w1 a1 n1 c1 x _ t1 (by omega) hx0 hx).mono ?_
      rintro e w2 ⟨a3, n3, c3, rfl, s3, b3⟩
      rw [val_toL, ← HVX.out] at s3
      rw [val_toL, ← HVX.out]
      have hml : val xs % val ys < 4294967296 := Nat.lt_of_lt_of_le (Nat.mod_lt _ (Nat.pos_of_ne_zero H0.out)) (by rw [HVX.out]; omega)
      generalize hR : val xs % val ys = R at hml ⊢
      have HR : Hid _ := hR
      clear hR
      go_wp2_with fail
      refine (of_any w2 R (by omega)).mono ?_
      rintro e w3 ⟨a4, n4, c4, rfl, s4, b4⟩
      go_wp2
      go_ret3
      rw [HR.out]
      exact ⟨a3, n3, c3, a4, n4, c4, rfl, s3.later b4, s4, HBQ.out _ (b3.trans (b4.mono b3.size))⟩
    · have h1b : ((m1 : Int) == 1) = false := by rw [beq_eq_false_iff_ne]; omega
      obtain ⟨k, rfl⟩ : ∃ k, m1 = k + 2 := ⟨m1 - 2, by omega⟩
      go_wp2_with fail
      refine (divLong_any w1 a1 a2 n1 c1 k c2 _ _ t1 t2 (by omega) (by omega)).mono ?_
      rintro e w2 ⟨a3, n3, c3, a4, n4, c4, rfl, s3, s4, b3⟩
      go_wp2
      go_ret3
      exact ⟨a3, n3, c3, a4, n4, c4, rfl, s3, s4, HBQ.out _ b3⟩

end Go.Proofs.Ythcclkjccaoniaa
