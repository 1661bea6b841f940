/- penumbraref01: DivMod. -/
import Derived.Test.YthcclkjccaoniaaR5
import Derived.Test.YthcclkjccaoniaaMd
import Derived.Test.YthcclkjccaoniaaL5
import Derived.Test.YthcclkjccaoniaaL6
import Derived.Deep.LoopGhost
namespace Go.Proofs.Ythcclkjccaoniaa
open Go.RowKit M

set_option maxHeartbeats 400000 in
theorem rdivMod_no (w : World) (ao bo : Option Addr) (n cap n2 cap2 : Nat) (ys : List Nat) (h2 : Sl w.heap.size w bo n2 cap2 ys) (hlen2 : n2 ≤ 549755813888) (h0 : val ys = 0) :
    Calls Try.prog 26 #[.slice ao n cap, .slice bo n2 cap2] w fun e w' => e = .returned (.tuple #[.slice none 0 0, .slice none 0 0, .bool false]) ∧ w = w' := by
  go_enter Try.func26, Try.ntmps26
  go_wp2_with fail
  refine (zero_any w bo n2 cap2 ys h2 (by omega)).mono ?_
  rintro e w' ⟨rfl, rfl⟩
  rw [h0, cmpN_eq rfl]
  go_wp2
  go_ret3
  exact ⟨rfl, rfl⟩

/-- What the last loop leaves. -/
def Dm (w : World) (A B : Nat) (e : Ending) (w' : World) : Prop := ∃ qo qn qc ro rn rc, e = .returned (.tuple #[.slice qo qn qc, .slice ro rn rc, .bool true]) ∧
      Sl w'.heap.size w' qo qn qc (toL (A / B)) ∧ Sl w'.heap.size w' ro rn rc (toL (A % B)) ∧ Below w.heap.size w w'

/-- The doubled divisor, while its last limb is not great. -/
structure P1 (A B n t : Nat) : Prop where
  lo : Bp n ≤ B * 2 ^ t
  hi : B * 2 ^ t < Bp (n + 1)
theorem P1.len {A B n t : Nat} (h : P1 A B n t) : (toL (B * 2 ^ t)).length = n + 1 := toL_len_eq h.lo h.hi
theorem P1.start {A B n : Nat} (hB : B ≠ 0) (hn : (toL B).length = n + 1) : P1 A B n 0 := by
  have h1 := toL_ge hB
  have h2 := val_lt (Lim_toL B)
  rw [val_toL, hn] at h2
  rw [hn, Nat.add_sub_cancel] at h1
  exact ⟨by simpa using h1, by simpa using h2⟩
theorem P1.next {A B n t : Nat} (h : P1 A B n t) (ht : (toL (B * 2 ^ t)).getD n 0 < 2147483648) : P1 A B n (t + 1) ∧ 2 * (B * 2 ^ t) = B * 2 ^ (t + 1) := by
  have e : 2 * (B * 2 ^ t) = B * 2 ^ (t + 1) := by rw [Nat.pow_succ, Nat.mul_comm (2 ^ t) 2, Nat.mul_left_comm]
  refine ⟨⟨?_, ?_⟩, e⟩
  · rw [← e]; have := h.lo; omega
  · rw [← e, Bp_succ]
    have h1 := top_lt h.len
    have h2 : ((toL (B * 2 ^ t)).getD n 0 + 1) * Bp n ≤ 2147483648 * Bp n := Nat.mul_le_mul_right _ ht
    omega
theorem P1.small {A B n t : Nat} (h : P1 A B n t) (hB : B ≠ 0) (hn : (toL B).length = n + 1) : t < 32 := by
  have h1 := toL_ge hB
  rw [hn, Nat.add_sub_cancel] at h1
  apply Nat.lt_of_not_le; intro hle
  have h2 : 2 ^ 32 ≤ 2 ^ t := Nat.pow_le_pow_right (by omega) hle
  have h3 := Nat.mul_le_mul h1 h2
  have := h.hi
  rw [Bp_succ] at this
  omega

set_option maxHeartbeats 2000000 in
set_option maxRecDepth 100000 in
theorem rdivMod_any (w : World) (ao bo : Option Addr) (n cap n2 cap2 : Nat) (xs ys : List Nat) (h : Sl w.heap.size w ao n cap xs) (h2 : Sl w.heap.size w bo n2 cap2 ys) (hlen : n ≤ 1048576) (hlen2 : n2 ≤ 1048576) (h0 : val ys ≠ 0) :
    Calls Try.prog 26 #[.slice ao n cap, .slice bo n2 cap2] w (Dm w (val xs) (val ys)) := by
  have hz : (cmpN (val ys) 0 == 0) = false := by rw [cmpN_gt (by omega)]; rfl
  have B0 : Below w.heap.size w w := Below.refl _ _
  go_enter Try.func26, Try.ntmps26
  go_wp2_with fail
  refine (zero_any w bo n2 cap2 ys h2 (by omega)).mono ?_
  rintro e w' ⟨rfl, rfl⟩
  rw [hz]
  clear hz
  go_wp2_with fail
  refine (rnorm_k h2 n2 (Nat.le_refl _) (by omega)).mono ?_
  rintro e w1 ⟨bo1, bn1, bc1, rfl, sb, lb1, b1⟩
  have B1 := B0.trans (b1.mono B0.size)
  have ha1 := h.later b1
  go_wp2_with fail
  refine (rnorm_k ha1 n (Nat.le_refl _) (by omega)).mono ?_
  rintro e w2 ⟨ao1, an1, ac1, rfl, sa, la1, b2⟩
  have B2 := B1.trans (b2.mono B1.size)
  replace sb := sb.later b2
  clear b1 b2 B0 B1 ha1 h h2
  obtain ⟨m, hm⟩ : ∃ m, (toL (val ys)).length = m + 1 := ⟨(toL (val ys)).length - 1, by have := toL_length_pos h0; omega⟩
  have hbl : bn1 = m + 1 := by rw [← sb.len, hm]
  subst hbl
  have HM : Hid _ := hm
  have H0 : Hid _ := h0
  clear hm h0
  generalize val xs = A at *
  generalize val ys = B at *
  have p10 : P1 A B m 0 := P1.start H0.out HM.out
  have la2 : an1 ≤ n + 1 := by omega
  have sa0 : Sl w2.heap.size w2 ao1 an1 ac1 (toL (A * 2 ^ 0)) := by rw [Nat.pow_zero, Nat.mul_one]; exact sa
  have sb0 : Sl w2.heap.size w2 bo1 (m + 1) bc1 (toL (B * 2 ^ 0)) := by rw [Nat.pow_zero, Nat.mul_one]; exact sb
  have hA : A < Bp n := by have := sa.lt; rw [val_toL] at this; exact Nat.lt_of_lt_of_le this (Bp_mono la1)
  have HA : Hid _ := hA
  clear sa sb la1 hA
  go_wp2
  go_loopg [7, 8, 9] (Bp (m + 1) - B * 2 ^ 0) (fun gk bv lv tv wr => ∃ t bo bc lo ln lc, bv = .slice bo (m + 1) bc ∧ lv = .slice lo ln lc ∧ tv = .int .i64 ((t : Nat) : Int) ∧ Sl wr.heap.size wr bo (m + 1) bc (toL (B * 2 ^ t)) ∧ Sl wr.heap.size wr lo ln lc (toL (A * 2 ^ t)) ∧ P1 A B m t ∧ Below w.heap.size w wr ∧ Hid (gk = Bp (m + 1) - B * 2 ^ t))
  case atStart => exact ⟨0, bo1, bc1, ao1, an1, ac1, rfl, rfl, rfl, sb0, sa0, p10, B2, rfl⟩
  case round =>
    clear sa0 sb0 p10 B2 la2
    obtain ⟨t, bo2, bc2, lo, ln, lc, rfl, rfl, rfl, sb, sl, hp, bw, HK⟩ := hrel
    have ht := hp.small H0.out HM.out
    have hln : ln ≤ n + 1 := by
      refine sl.ln ?_
      rw [Bp_succ, Nat.mul_comm 4294967296]
      exact Nat.lt_of_lt_of_le ((Nat.mul_lt_mul_right (Nat.two_pow_pos t)).2 HA.out) (Nat.mul_le_mul_left _ (by have := pow31 ht; omega))
    obtain ⟨b, o, x, rfl, hb0, hcell, hx, HX⟩ := sb.cell m (by omega)
    have hcell' : wr.cell? ⟨b, o + (m + 1 - 1), none⟩ = some (.int .u32 (x : Int)) := hcell
    by_cases hx31 : x < 2147483648
    · obtain ⟨hp2, e2⟩ := hp.next (by rw [← HX.out]; exact hx31)
      have E2 : Hid _ := e2
      have hg : decide ((x : Int) < 2147483648) = true := by simp only [decide_eq_true_eq]; omega
      clear e2 hx31
      go_wp2_with fail
      refine (double_any wr _ (m + 1) bc2 _ sb (by omega)).mono ?_
      rintro e w3 ⟨bo3, bn3, bc3, rfl, sb3, b3⟩
      rw [val_toL, E2.out] at sb3
      have hb3 : bn3 = m + 1 := by rw [← sb3.len, hp2.len]
      subst hb3
      have sl3 := sl.later b3
      have bw3 := bw.trans (b3.mono bw.size)
      clear b3 hcell hcell'
      go_wp2_with fail
      refine (double_any w3 lo ln lc _ sl3 (by omega)).mono ?_
      rintro e w4 ⟨lo4, ln4, lc4, rfl, sl4, b4⟩
      rw [val_toL, show 2 * (A * 2 ^ t) = A * 2 ^ (t + 1) from by rw [Nat.pow_succ, Nat.mul_comm (2 ^ t) 2, Nat.mul_left_comm]] at sl4
      have sb4 := sb3.later b4
      have bw4 := bw3.trans (b4.mono bw3.size)
      clear b4
      have HKM : Hid (Bp (m + 1) - B * 2 ^ (t + 1) < gk) := by
        show Bp (m + 1) - B * 2 ^ (t + 1) < gk
        have h1 := HK.out
        have h2 := E2.out
        have h3 := hp2.hi
        have h4 := hp.lo
        have h5 := Bp_pos m
        omega
      go_wp2
      go_roundg (Bp (m + 1) - B * 2 ^ (t + 1))
      case measure => exact HKM.out
      case rel => exact ⟨t + 1, bo3, bc3, lo4, ln4, lc4, rfl, rfl, by go_num, sb4, sl4, hp2, bw4, rfl⟩
    · have hg : decide ((x : Int) < 2147483648) = false := by simp only [decide_eq_false_iff_not]; omega
      have HX31 : Hid _ := hx31
      obtain ⟨sq, lbq⟩ := lit1 wr 0 [] #[] rfl Lim.nil rfl
      have hYB : (toL (B * 2 ^ t)).length = m + 1 := hp.len
      have hY0 : 0 < B * 2 ^ t := Nat.lt_of_lt_of_le (Bp_pos m) hp.lo
      have htl : B * 2 ^ t < (x + 1) * Bp m := by rw [HX.out]; exact top_lt hYB
      have hL0 : A * 2 ^ t < Bp (n + 1) := by
        rw [Bp_succ, Nat.mul_comm 4294967296]
        exact Nat.lt_of_lt_of_le ((Nat.mul_lt_mul_right (Nat.two_pow_pos t)).2 HA.out) (Nat.mul_le_mul_left _ (by have := pow31 ht; omega))
      have hmn : m ≤ 1048576 := by omega
      have HYB : Hid _ := hYB
      have HY0 : Hid _ := hY0
      have HTL : Hid _ := htl
      have HL0 : Hid _ := hL0
      have sb' := sb.later lbq
      have sl' := sl.later lbq
      have bw' := bw.trans (lbq.mono bw.size)
      rw [show ([] : List Nat) = toL 0 from rfl] at sq
      clear hx31 hYB hY0 htl hL0 lbq sb sl bw hp HK
      go_wp2
      generalize wr.alloc (.cells #[] 32) = w3 at *
      go_loopg [8, 10] (A * 2 ^ t) (fun gk lv qv wq => ∃ L Q lo ln lc qo qn qc, lv = .slice lo ln lc ∧ qv = .slice qo qn qc ∧ Sl wq.heap.size wq lo ln lc (toL L) ∧ Sl wq.heap.size wq qo qn qc (toL Q) ∧ Sl wq.heap.size wq (some ⟨b, o, none⟩) (m + 1) bc2 (toL (B * 2 ^ t)) ∧ Below w.heap.size w wq ∧ Hid (Q * (B * 2 ^ t) + L = A * 2 ^ t) ∧ Hid (gk = L))
      case atStart => exact ⟨A * 2 ^ t, 0, lo, ln, lc, _, 0, 0, rfl, rfl, sl', sq, sb', bw', show 0 * (B * 2 ^ t) + A * 2 ^ t = A * 2 ^ t from by omega, rfl⟩
      case round =>
        clear sq sb' sl' bw' hcell hcell'
        obtain ⟨L, Q, lo, ln, lc, qo, qn, qc, rfl, rfl, sl, sq, sb, bw, HE, HK⟩ := hrel
        have hln2 : ln ≤ n + 1 := sl.ln (by have := HE.out; have := HL0.out; omega)
        have hqn : qn ≤ n + 1 := sq.ln (by
          have h1 := HE.out
          have h2 := HL0.out
          have h3 := Nat.le_mul_of_pos_right Q HY0.out
          omega)
        by_cases hlt : L < B * 2 ^ t
        · have hq : Q = A / B ∧ L = A % B * 2 ^ t := by
            have h1 := HE.out
            have h2 : A * 2 ^ t / (B * 2 ^ t) = A / B := Nat.mul_div_mul_right _ _ (Nat.two_pow_pos t)
            have h3 : A * 2 ^ t % (B * 2 ^ t) = A % B * 2 ^ t := Nat.mul_mod_mul_right _ _ _
            rw [← h2, ← h3, ← h1, Nat.mul_comm Q]
            exact ⟨by rw [Nat.mul_add_div HY0.out, Nat.div_eq_of_lt hlt]; omega, by rw [Nat.mul_add_mod, Nat.mod_eq_of_lt hlt]⟩
          rw [hq.1] at sq
          rw [hq.2] at sl
          have HLT : Hid _ := hlt
          clear hq hlt
          go_wp2_with fail
          refine (rcmp_any _ _ _ _ _ _ _ _ _ _ sl sb (by omega) (by omega)).mono ?_
          rintro e w5 ⟨rfl, rfl⟩
          have hcl : cmpN (val (toL (A % B * 2 ^ t))) (val (toL (B * 2 ^ t))) = -1 := by
            rw [val_toL, val_toL]
            exact cmpN_lt ((Nat.mul_lt_mul_right (Nat.two_pow_pos t)).2 (Nat.mod_lt _ (Nat.pos_of_ne_zero H0.out)))
          rw [hcl]
          clear hcl sb
          go_wp2
          go_loopw [8, 17] (fun lv iv wq => ∃ i lo ln lc, lv = .slice lo ln lc ∧ iv = .int .i64 ((i : Nat) : Int) ∧ i ≤ t ∧ ln ≤ n + 1 ∧ Sl wq.heap.size wq lo ln lc (toL (A % B * 2 ^ (t - i))) ∧ Sl wq.heap.size wq qo qn qc (toL (A / B)) ∧ Below w.heap.size w wq) (fun _ iv _ => t - (intOf iv).toNat)
          case atStart => exact ⟨0, lo, ln, lc, rfl, rfl, Nat.zero_le _, hln2, sl, sq, bw⟩
          case round =>
            clear sl sq bw hln2
            obtain ⟨i, lo, ln, lc, rfl, rfl, hit, hln3, sl, sq, bw⟩ := hrel
            by_cases hi2 : i < t
            · have HV : Hid (A % B * 2 ^ (t - i) / 2 = A % B * 2 ^ (t - (i + 1))) := by
                show A % B * 2 ^ (t - i) / 2 = A % B * 2 ^ (t - (i + 1))
                rw [show t - i = (t - (i + 1)) + 1 from by omega, Nat.pow_succ, ← Nat.mul_assoc, Nat.mul_div_cancel _ (by omega)]
              go_wp2_with fail
              refine (half_any _ lo ln lc _ sl (by omega)).mono ?_
              rintro e w6 ⟨lo6, ln6, lc6, rfl, sl6, b6⟩
              have hln6 : ln6 ≤ n + 1 := by
                refine Nat.le_trans (sl6.ln (i := ln) ?_) hln3
                have := sl.lt
                omega
              rw [val_toL, HV.out] at sl6
              have bw6 := bw.trans (b6.mono bw.size)
              have sq6 := sq.later b6
              clear b6
              go_wp2
              go_roundw
              case rel => exact ⟨i + 1, lo6, ln6, lc6, rfl, by go_num, by omega, hln6, sl6, sq6, bw6⟩
              case measure => simp [intOf]; omega
            · obtain rfl : i = t := by omega
              rw [Nat.sub_self, Nat.pow_zero, Nat.mul_one] at sl
              go_wp2
              go_ret3
              exact ⟨qo, qn, qc, lo, ln, lc, rfl, sq, sl, bw⟩
        · have hcm : 0 ≤ cmpN L (B * 2 ^ t) := by unfold cmpN; split <;> (try split) <;> omega
          obtain ⟨j, hj⟩ : ∃ j, ln = j + 1 := ⟨ln - 1, by have := toL_length_pos (n := L) (by have := HY0.out; omega); have := sl.len; omega⟩
          subst hj
          have hmj : m ≤ j := by
            have h1 := HYB.out
            have h2 := sl.len
            by_cases hh : (toL L).length < (toL (B * 2 ^ t)).length
            · have := toL_len_lt hh; omega
            · omega
          obtain ⟨b1, o1, x1, rfl, hb1, hc1, hx1, HX1⟩ := sl.cell j (by omega)
          have hc1' : wr.cell? ⟨b1, o1 + (j + 1 - 1), none⟩ = some (.int .u32 (x1 : Int)) := hc1
          have HLT : Hid (B * 2 ^ t ≤ L) := Nat.le_of_not_lt hlt
          have HLN : Hid (L ≠ 0) := by show L ≠ 0; have := HY0.out; omega
          clear hlt
          go_wp2_with fail
          refine (rcmp_any _ _ _ _ _ _ _ _ _ _ sl sb (by omega) (by omega)).mono ?_
          rintro e w5 ⟨rfl, rfl⟩
          rw [val_toL, val_toL]
          generalize cmpN L (B * 2 ^ t) = cm at hcm
          have hd0 : 0 ≤ (x1 : Int) / ((x : Int) + 1) := Int.ediv_nonneg (by omega) (by omega)
          have hd1 : (x1 : Int) / ((x : Int) + 1) ≤ 4294967295 := Int.le_trans (Int.ediv_le_self _ (by omega)) (by omega)
          by_cases ht1 : x + 1 ≤ x1
          · have hq1 : ((x1 : Int) / ((x : Int) + 1) == 0) = false := by
              rw [beq_eq_false_iff_ne]
              have : 1 ≤ (x1 : Int) / ((x : Int) + 1) := by rw [Int.le_ediv_iff_mul_le (by omega)]; omega
              omega
            have HS : Hid (Bp (j - m) * (x1 / (x + 1)) * (B * 2 ^ t) ≤ L) := some_le (Nat.div_mul_le_self x1 (x + 1)) (by rw [HX1.out]; exact top_ge sl.len) HTL.out (show m + (j - m) = j from by omega)
            have HT1 : Hid (0 < x1 / (x + 1)) := Nat.div_pos ht1 (by omega)
            have HT2 : Hid (x1 / (x + 1) < 18446744073709551616) := Nat.lt_of_le_of_lt (Nat.div_le_self _ _) (by omega)
            go_wp2_with fail
            clear hd0 hd1 hq1 hc1 hc1'
            have HEQ : Hid ((Q + Bp (j - m) * (x1 / (x + 1))) * (B * 2 ^ t) + (L - Bp (j - m) * (x1 / (x + 1)) * (B * 2 ^ t)) = A * 2 ^ t) := by
              show (Q + Bp (j - m) * (x1 / (x + 1))) * (B * 2 ^ t) + (L - Bp (j - m) * (x1 / (x + 1)) * (B * 2 ^ t)) = A * 2 ^ t
              have h1 := HE.out
              have h2 := HS.out
              rw [Nat.add_mul]; omega
            have HDE : Hid (L - Bp (j - m) * (x1 / (x + 1)) * (B * 2 ^ t) < gk) := by
              show L - Bp (j - m) * (x1 / (x + 1)) * (B * 2 ^ t) < gk
              have h1 := HK.out
              have h2 := HS.out
              have h3 : 0 < Bp (j - m) * (x1 / (x + 1)) * (B * 2 ^ t) := Nat.mul_pos (Nat.mul_pos (Bp_pos _) HT1.out) HY0.out
              omega
            rw [show (x1 : Int) / ((x : Int) + 1) = ((x1 / (x + 1) : Nat) : Int) from by rw [Int.natCast_ediv]; rfl, show (j : Int) + 1 - ((m : Int) + 1) = ((j - m : Nat) : Int) from by omega]
            refine (at_any wr (x1 / (x + 1)) (j - m) HT2.out (by omega)).mono ?_
            rintro e w6 ⟨so, sn, sc, zs, rfl, ss, hsn, HV, b6⟩
            have hsn2 : sn ≤ n + 3 := by omega
            have bw6 := bw.trans (b6.mono bw.size)
            replace sl := sl.later b6
            replace sb := sb.later b6
            replace sq := sq.later b6
            clear hsn b6 bw
            go_wp2_with fail
            refine (radd_k sq ss (n + 3) (by omega) (by omega) (by omega)).mono ?_
            rintro e w7 ⟨qo7, qn7, qc7, rfl, sq7, lq7, b7⟩
            rw [val_toL, HV.out] at sq7
            have bw7 := bw6.trans (b7.mono bw6.size)
            replace sl := sl.later b7
            replace sb := sb.later b7
            replace ss := ss.later b7
            clear b7 bw6
            go_wp2_with fail
            refine (rmul_k ss sb (n + 3) (m + 1) (by omega) (by omega) (by omega) (by omega)).mono ?_
            rintro e w8 ⟨mo8, mn8, mc8, rfl, sm, lm8, b8⟩
            rw [val_toL, HV.out] at sm
            have bw8 := bw7.trans (b8.mono bw7.size)
            replace sl := sl.later b8
            replace sb := sb.later b8
            replace sq7 := sq7.later b8
            clear b8 bw7
            go_wp2_with fail
            refine (rsub_k sl sm (n + 1) (by omega) (by omega) (by omega) (by rw [val_toL, val_toL]; exact HS.out)).mono ?_
            rintro e w9 ⟨lo9, ln9, lc9, rfl, sl9, ll9, b9⟩
            rw [val_toL, val_toL] at sl9
            have bw9 := bw8.trans (b9.mono bw8.size)
            replace sb := sb.later b9
            replace sq7 := sq7.later b9
            clear b9 bw8
            go_wp2
            go_roundg (L - Bp (j - m) * (x1 / (x + 1)) * (B * 2 ^ t))
            case measure => exact HDE.out
            case rel => exact ⟨_, _, lo9, ln9, lc9, qo7, qn7, qc7, rfl, rfl, sl9, sq7, sb, bw9, HEQ.out, rfl⟩
          · have hq0 : (x1 : Int) / ((x : Int) + 1) = 0 := Int.ediv_eq_zero_of_lt (by omega) (by omega)
            clear hd0 hd1
            by_cases hjm : m < j
            · obtain ⟨b2, o2, x0, e2, hb2, hc2, hx0, HX0⟩ := sl.cell (j - 1) (by omega)
              simp only [Option.some.injEq, Addr.mk.injEq, and_true] at e2
              obtain ⟨rfl, rfl⟩ := e2
              have hc2' : wr.cell? ⟨b1, o1 + (j + 1 - 2), none⟩ = some (.int .u32 (x0 : Int)) := hc2
              have hx1p : 1 ≤ x1 := by
                have := toL_last HLN.out
                rw [sl.len, Nat.add_sub_cancel, ← HX1.out] at this
                omega
              have hge2 : (x1 * 4294967296 + x0) * Bp (j - 1) ≤ L := by
                have h1 := sl.len
                rw [show j + 1 = j - 1 + 2 from by omega] at h1
                have h2 := top_ge2 h1
                rw [show j - 1 + 1 = j from by omega, ← HX1.out, ← HX0.out] at h2
                exact h2
              have HS : Hid (Bp (j - m - 1) * ((x1 * 4294967296 + x0) / (x + 1)) * (B * 2 ^ t) ≤ L) := some_le (Nat.div_mul_le_self (x1 * 4294967296 + x0) (x + 1)) hge2 HTL.out (show m + (j - m - 1) = j - 1 from by omega)
              have HT1 : Hid (0 < (x1 * 4294967296 + x0) / (x + 1)) := Nat.div_pos (by omega) (by omega)
              have HT2 : Hid ((x1 * 4294967296 + x0) / (x + 1) < 18446744073709551616) := Nat.lt_of_le_of_lt (Nat.div_le_self _ _) (by omega)
              clear hge2
              obtain ⟨T, hT⟩ : ∃ T : Nat, T = (x1 * 4294967296 + x0) / (x + 1) := ⟨_, rfl⟩
              have hTi : ((x1 : Int) * 4294967296 + (x0 : Int)) / ((x : Int) + 1) = (T : Int) := by rw [hT, Int.natCast_ediv]; congr 1
              have hT1 : 1 ≤ T := by rw [hT]; exact HT1.out
              have hT2 : T < 4294967296 := by rw [hT]; exact (Nat.div_lt_iff_lt_mul (by omega)).2 (by omega)
              rw [← hT] at HS HT1 HT2
              clear hT
              have hTb : ((T : Int) == 0) = false := by rw [beq_eq_false_iff_ne]; omega
              go_wp2
              go_quiet (fail)
              rw [hTi]
              clear hTi hc1 hc1' hc2 hc2' hq0
              replace sl : Sl (wr.drewN nq).heap.size (wr.drewN nq) (some ⟨b1, o1, none⟩) (j + 1) lc (toL L) := ((Qt.refl wr).drewN nq).sl sl
              replace sq : Sl (wr.drewN nq).heap.size (wr.drewN nq) qo qn qc (toL Q) := ((Qt.refl wr).drewN nq).sl sq
              replace sb : Sl (wr.drewN nq).heap.size (wr.drewN nq) (some ⟨b, o, none⟩) (m + 1) bc2 (toL (B * 2 ^ t)) := ((Qt.refl wr).drewN nq).sl sb
              replace bw : Below w.heap.size w (wr.drewN nq) := bw.trans (((Qt.refl wr).drewN nq).below _)
              generalize wr.drewN nq = wr2 at sl sq sb bw ⊢
              go_wp2_with fail
              have HEQ : Hid ((Q + Bp (j - m - 1) * (T)) * (B * 2 ^ t) + (L - Bp (j - m - 1) * (T) * (B * 2 ^ t)) = A * 2 ^ t) := by
                show (Q + Bp (j - m - 1) * (T)) * (B * 2 ^ t) + (L - Bp (j - m - 1) * (T) * (B * 2 ^ t)) = A * 2 ^ t
                have h1 := HE.out
                have h2 := HS.out
                rw [Nat.add_mul]; omega
              have HDE : Hid (L - Bp (j - m - 1) * (T) * (B * 2 ^ t) < gk) := by
                show L - Bp (j - m - 1) * (T) * (B * 2 ^ t) < gk
                have h1 := HK.out
                have h2 := HS.out
                have h3 : 0 < Bp (j - m - 1) * (T) * (B * 2 ^ t) := Nat.mul_pos (Nat.mul_pos (Bp_pos _) HT1.out) HY0.out
                omega
              rw [show (j : Int) + 1 - ((m : Int) + 1) - 1 = ((j - m - 1 : Nat) : Int) from by omega]
              refine (at_any wr2 (T) (j - m - 1) HT2.out (by omega)).mono ?_
              rintro e w6 ⟨so, sn, sc, zs, rfl, ss, hsn, HV, b6⟩
              have hsn2 : sn ≤ n + 3 := by omega
              have bw6 := bw.trans (b6.mono bw.size)
              replace sl := sl.later b6
              replace sb := sb.later b6
              replace sq := sq.later b6
              clear hsn b6 bw
              go_wp2_with fail
              refine (radd_k sq ss (n + 3) (by omega) (by omega) (by omega)).mono ?_
              rintro e w7 ⟨qo7, qn7, qc7, rfl, sq7, lq7, b7⟩
              rw [val_toL, HV.out] at sq7
              have bw7 := bw6.trans (b7.mono bw6.size)
              replace sl := sl.later b7
              replace sb := sb.later b7
              replace ss := ss.later b7
              clear b7 bw6
              go_wp2_with fail
              refine (rmul_k ss sb (n + 3) (m + 1) (by omega) (by omega) (by omega) (by omega)).mono ?_
              rintro e w8 ⟨mo8, mn8, mc8, rfl, sm, lm8, b8⟩
              rw [val_toL, HV.out] at sm
              have bw8 := bw7.trans (b8.mono bw7.size)
              replace sl := sl.later b8
              replace sb := sb.later b8
              replace sq7 := sq7.later b8
              clear b8 bw7
              go_wp2_with fail
              refine (rsub_k sl sm (n + 1) (by omega) (by omega) (by omega) (by rw [val_toL, val_toL]; exact HS.out)).mono ?_
              rintro e w9 ⟨lo9, ln9, lc9, rfl, sl9, ll9, b9⟩
              rw [val_toL, val_toL] at sl9
              have bw9 := bw8.trans (b9.mono bw8.size)
              replace sb := sb.later b9
              replace sq7 := sq7.later b9
              clear b9 bw8
              go_wp2
              go_roundg (L - Bp (j - m - 1) * (T) * (B * 2 ^ t))
              case measure => exact HDE.out
              case rel => exact ⟨_, _, lo9, ln9, lc9, qo7, qn7, qc7, rfl, rfl, sl9, sq7, sb, bw9, HEQ.out, rfl⟩
            · obtain rfl : m = j := by omega
              have HS : Hid (Bp 0 * 1 * (B * 2 ^ t) ≤ L) := by
                show Bp 0 * 1 * (B * 2 ^ t) ≤ L
                rw [Bp_zero, Nat.one_mul]
                have := HLT.out; omega
              have HT1 : Hid (0 < 1) := Nat.one_pos
              have HT2 : Hid (1 < 18446744073709551616) := by show 1 < 18446744073709551616; omega
              go_wp2_with fail
              clear hq0 hc1 hc1'
              have HEQ : Hid ((Q + Bp (0) * (1)) * (B * 2 ^ t) + (L - Bp (0) * (1) * (B * 2 ^ t)) = A * 2 ^ t) := by
                show (Q + Bp (0) * (1)) * (B * 2 ^ t) + (L - Bp (0) * (1) * (B * 2 ^ t)) = A * 2 ^ t
                have h1 := HE.out
                have h2 := HS.out
                rw [Nat.add_mul]; omega
              have HDE : Hid (L - Bp (0) * (1) * (B * 2 ^ t) < gk) := by
                show L - Bp (0) * (1) * (B * 2 ^ t) < gk
                have h1 := HK.out
                have h2 := HS.out
                have h3 : 0 < Bp (0) * (1) * (B * 2 ^ t) := Nat.mul_pos (Nat.mul_pos (Bp_pos _) HT1.out) HY0.out
                omega
              refine (at_any wr (1) (0) HT2.out (by omega)).mono ?_
              rintro e w6 ⟨so, sn, sc, zs, rfl, ss, hsn, HV, b6⟩
              have hsn2 : sn ≤ n + 3 := by omega
              have bw6 := bw.trans (b6.mono bw.size)
              replace sl := sl.later b6
              replace sb := sb.later b6
              replace sq := sq.later b6
              clear hsn b6 bw
              go_wp2_with fail
              refine (radd_k sq ss (n + 3) (by omega) (by omega) (by omega)).mono ?_
              rintro e w7 ⟨qo7, qn7, qc7, rfl, sq7, lq7, b7⟩
              rw [val_toL, HV.out] at sq7
              have bw7 := bw6.trans (b7.mono bw6.size)
              replace sl := sl.later b7
              replace sb := sb.later b7
              replace ss := ss.later b7
              clear b7 bw6
              go_wp2_with fail
              refine (rmul_k ss sb (n + 3) (m + 1) (by omega) (by omega) (by omega) (by omega)).mono ?_
              rintro e w8 ⟨mo8, mn8, mc8, rfl, sm, lm8, b8⟩
              rw [val_toL, HV.out] at sm
              have bw8 := bw7.trans (b8.mono bw7.size)
              replace sl := sl.later b8
              replace sb := sb.later b8
              replace sq7 := sq7.later b8
              clear b8 bw7
              go_wp2_with fail
              refine (rsub_k sl sm (n + 1) (by omega) (by omega) (by omega) (by rw [val_toL, val_toL]; exact HS.out)).mono ?_
              rintro e w9 ⟨lo9, ln9, lc9, rfl, sl9, ll9, b9⟩
              rw [val_toL, val_toL] at sl9
              have bw9 := bw8.trans (b9.mono bw8.size)
              replace sb := sb.later b9
              replace sq7 := sq7.later b9
              clear b9 bw8
              go_wp2
              go_roundg (L - Bp (0) * (1) * (B * 2 ^ t))
              case measure => exact HDE.out
              case rel => exact ⟨_, _, lo9, ln9, lc9, qo7, qn7, qc7, rfl, rfl, sl9, sq7, sb, bw9, HEQ.out, rfl⟩

end Go.Proofs.Ythcclkjccaoniaa
