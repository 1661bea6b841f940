/- root.headAt, heads. -/
import Derived.Test.YthcclkjccaoniaaMg
import Derived.Test.YthcclkjccaoniaaGd
namespace Go.Proofs.Ythcclkjccaoniaa
open Go.RowKit M

theorem limbAt_same (N : Nat) (w : World) (ao : Option Addr) (n cap k : Nat) (xs : List Nat) (h : Sl N w ao n cap xs) (x : Nat) (hx : x = xs.getD k 0) (K : Int) (hK : K = (k : Int)) :
    Calls Try.prog 43 #[.slice ao n cap, .int .i64 K] w fun e w' => e = .returned (.int .u32 (x : Int)) ∧ w' = w := by
  subst hx hK
  exact (limbAt_any N w ao n cap k xs h).mono fun e w' ⟨h1, h2⟩ => ⟨h1, h2.symm⟩

theorem or_head {p q d : Nat} (hq : q < 2 ^ d) (hp : p * 2 ^ d + 2 ^ d ≤ 18446744073709551616) : Go.bits .or .u64 (IntKind.u64.wrap ((p : Int) * 2 ^ d)) (q : Int) = ((p * 2 ^ d + q : Nat) : Int) := by
  rw [IntKind.wrap_u64, show (p : Int) * 2 ^ d = ((p * 2 ^ d : Nat) : Int) from by rw [Int.natCast_mul, Int.natCast_pow]; rfl]
  have := Nat.two_pow_pos d
  rw [show ((p * 2 ^ d : Nat) : Int) % 18446744073709551616 = ((p * 2 ^ d : Nat) : Int) from by omega]
  rw [u64_or_nat _ _ (by omega) (by omega), nat_join d _ _ (Nat.mul_mod_left _ _) hq]

set_option maxHeartbeats 1000000 in
theorem headAt_any (N : Nat) (w : World) (ao : Option Addr) (m cap n d : Nat) (xs : List Nat) (h : Sl N w ao m cap xs) (hn : n ≤ 1099511627776) (hd32 : d < 32) (ht : xs.getD (n + 2) 0 < 2 ^ (32 - d)) :
    Calls Try.prog 56 #[.slice ao m cap, .int .i64 ((n + 2 : Nat) : Int), .int .i64 (d : Int)] w fun e w' => e = .returned (.int .u64 ((hd xs n d : Nat) : Int)) ∧ Qt w w' := by
  obtain ⟨f1, f2⟩ := hd_lt (n := n) h.lim (Nat.le_of_lt hd32) ht
  have l2 := h.lim.getD (n + 2)
  have l1 := h.lim.getD (n + 1)
  have l0 := h.lim.getD n
  obtain ⟨z2, hz2⟩ : ∃ z, z = xs.getD (n + 2) 0 := ⟨_, rfl⟩
  obtain ⟨z1, hz1⟩ : ∃ z, z = xs.getD (n + 1) 0 := ⟨_, rfl⟩
  obtain ⟨z0, hz0⟩ : ∃ z, z = xs.getD n 0 := ⟨_, rfl⟩
  have c2 := limbAt_same N w ao m cap (n + 2) xs h z2 hz2
  have c1 := limbAt_same N w ao m cap (n + 1) xs h z1 hz1
  have c0 := fun w1 (q : Qt w w1) => limbAt_same N w1 ao m cap n xs (q.sl h) z0 hz0
  have hj := or_join (r := z2) (x := z1) (by omega) (by omega)
  rw [← hz2, ← hz1] at f1
  rw [← hz0] at f2
  have hh := or_head f2 f1
  rw [show (z2 * 4294967296 + z1) * 2 ^ d + z0 / 2 ^ (32 - d) = hd xs n d from by unfold hd; rw [hz2, hz1, hz0]] at hh
  have e32 : ((32 : Int) - (d : Int)) = ((32 - d : Nat) : Int) := by omega
  have esh : (z0 : Int) / 2 ^ (32 - d) = ((z0 / 2 ^ (32 - d) : Nat) : Int) := by rw [Int.natCast_ediv, Int.natCast_pow]; rfl
  have C2 : Hid _ := c2
  have C1 : Hid _ := c1
  have C0 : Hid _ := c0
  have HJ : Hid _ := hj
  have HH : Hid _ := hh
  rw [← hz2] at l2
  rw [← hz1] at l1
  rw [← hz0] at l0
  have EW : Hid (IntKind.u64.wrap ((z0 : Int) / 2 ^ (32 - d)) = ((z0 / 2 ^ (32 - d) : Nat) : Int)) := by
    show IntKind.u64.wrap ((z0 : Int) / 2 ^ (32 - d)) = _
    rw [esh, IntKind.wrap_u64]
    have := Nat.div_le_self z0 (2 ^ (32 - d))
    generalize z0 / 2 ^ (32 - d) = q at *
    omega
  clear c2 c1 c0 f1 f2 hj hh ht esh hz2 hz1 hz0
  generalize hd xs n d = R at *
  go_enter Try.func56, Try.ntmps56
  go_wp2_with fail
  refine Calls.mono (C2.out _ (by omega)) ?_
  rintro e w' ⟨rfl, rfl⟩
  go_wp2_with fail
  refine Calls.mono (C1.out _ (by omega)) ?_
  rintro e w'' ⟨rfl, rfl⟩
  go_wp2
  rw [HJ.out]
  have hj2 : z2 * 4294967296 + z1 < 18446744073709551616 := by omega
  generalize z2 * 4294967296 + z1 = p at *
  go_quiet ((go_at_call 43; exact Calls.quiet_of_same (C0.out _ ((Qt.refl _).drewN _) _ (by omega))))
  go_wp2
  go_ret
  exact ⟨ret1 (by rw [EW.out]; exact HH.out), (Qt.refl _).drewN _⟩

set_option maxHeartbeats 1000000 in
theorem heads_any (N : Nat) (w : World) (ao bo : Option Addr) (n cap m bcap A B : Nat) (h : Sl N w ao (n + 3) cap (toL A)) (h2 : Sl N w bo m bcap (toL B)) (hn : n ≤ 1099511627773) (hle : B ≤ A) :
    Calls Try.prog 40 #[.slice ao (n + 3) cap, .slice bo m bcap] w fun e w' => ∃ (a b P x y : Nat), e = .returned (.tuple #[.int .u64 (a : Int), .int .u64 (b : Int)]) ∧ Qt w w' ∧
      a < 18446744073709551616 ∧ b ≤ a ∧ 1 ≤ a ∧ A = P * a + x ∧ x < P ∧ B = P * b + y ∧ y < P := by
  obtain ⟨b', o, x, hao, hb, cx, lx, HX⟩ := h.cell (n + 2) (by omega)
  subst hao
  have hA0 : A ≠ 0 := by
    intro h0
    have := h.len
    rw [h0, toL_zero] at this
    simp at this
  have hx0 : x ≠ 0 := by
    have := toL_last hA0
    rw [h.len] at this
    rw [HX.out]; exact this
  obtain ⟨g1, g2, g3, g4⟩ := shift_top (l := nb x) hx0 rfl lx
  obtain ⟨d, hdx⟩ : ∃ d, d + nb x = 32 := ⟨32 - nb x, by omega⟩
  have hlz := fun w => lz32_any (x : Int) w (by omega) (by omega)
  rw [Int.toNat_natCast, bitLen_nb x lx, show (32 : Int) - (nb x : Int) = (d : Int) from by omega] at hlz
  have HLZ : Hid _ := hlz
  have hd32 : d < 32 := by omega
  have htx : (toL A).getD (n + 2) 0 < 2 ^ (32 - d) := by
    rw [← HX.out, show 32 - d = nb x from by omega]; exact nb_lt x
  have hml : m ≤ n + 3 := by rw [← h2.len]; exact toL_len_le (Nat.lt_of_le_of_lt hle (by have := h.lt; rwa [val_toL] at this))
  have hty : (toL B).getD (n + 2) 0 < 2 ^ (32 - d) :=
    Nat.lt_of_le_of_lt (top_le (Lim_toL A) (by rw [h.len]; omega) (by rw [h2.len]; omega) (by rw [val_toL, val_toL]; exact hle)) htx
  obtain ⟨xa, ea, la⟩ := hd_split (n := n) (d := d) (Lim_toL A) (by rw [h.len]; omega) (by omega)
  obtain ⟨xb, eb, lb⟩ := hd_split (n := n) (d := d) (Lim_toL B) (by rw [h2.len]; omega) (by omega)
  rw [val_toL] at ea eb
  obtain ⟨f1, f2⟩ := hd_lt (n := n) (Lim_toL A) (Nat.le_of_lt hd32) htx
  have hlta : hd (toL A) n d < 18446744073709551616 := by unfold hd; omega
  have hpos : 1 ≤ hd (toL A) n d := by
    have hp := Nat.two_pow_pos d
    have : 1 ≤ ((toL A).getD (n + 2) 0 * 4294967296 + (toL A).getD (n + 1) 0) * 2 ^ d := Nat.mul_pos (by rw [← HX.out]; omega) hp
    exact Nat.le_trans this (Nat.le_add_right _ _)
  have ca := fun w1 (q : Qt w w1) => headAt_any N w1 _ (n + 3) cap n d _ (q.sl h) (by omega) hd32 htx
  have cb := fun w1 (q : Qt w w1) => headAt_any N w1 bo m bcap n d _ (q.sl h2) (by omega) hd32 hty
  have hfin : ∃ P, A = P * hd (toL A) n d + xa ∧ xa < P ∧ B = P * hd (toL B) n d + xb ∧ xb < P := ⟨_, ea, la, eb, lb⟩
  have hba : hd (toL B) n d ≤ hd (toL A) n d := head_le ea la eb hle
  have CA : Hid _ := ca
  have CB : Hid _ := cb
  have HF : Hid _ := hfin
  have L1 : Hid _ := hlta
  have L2 : Hid _ := hpos
  have L3 : Hid _ := hba
  clear ca cb hfin hlta hpos hba f1 f2 ea eb la lb hty htx hml hlz g1 g2 g3 g4 hx0 HX hdx hle hA0 h h2
  rw [show ((n + 2 : Nat) : Int) = (n : Int) + 2 from by omega] at CA CB
  generalize M.hd (toL A) n d = ha at *
  generalize M.hd (toL B) n d = hb2 at *
  have cx' : w.cell? ⟨b', o + (n + 3 - 1), none⟩ = some (.int .u32 (x : Int)) := cx
  go_enter Try.func40, Try.ntmps40
  go_wp2_with (first | (go_at_call 51; refine (HLZ.out _).mono ?_; rintro e w' ⟨rfl, rfl⟩))
  have e3 : (n : Int) + 3 - 1 = (n : Int) + 2 := by omega
  rw [e3]
  refine Calls.mono (CA.out _ (Qt.refl _)) ?_
  rintro e w1 ⟨rfl, q1⟩
  go_wp2_with fail
  refine Calls.mono (CB.out _ q1) ?_
  rintro e w2 ⟨rfl, q2⟩
  go_wp2
  go_ret2
  obtain ⟨P, p1, p2, p3, p4⟩ := HF.out
  exact ⟨ha, hb2, P, xa, xb, rfl, q1.trans q2, L1.out, L3.out, L2.out, p1, p2, p3, p4⟩
end Go.Proofs.Ythcclkjccaoniaa
