/- nat.shiftUp, Shl. -/
import Derived.Test.YthcclkjccaoniaaW6
namespace Go.Proofs.Ythcclkjccaoniaa
open Go.RowKit M

theorem pow31 {d : Nat} (hd : d < 32) : 2 ^ d ≤ 2147483648 := by
  have : 2 ^ d ≤ 2 ^ 31 := Nat.pow_le_pow_right (by omega) (by omega)
  omega
theorem shl_bound {y d : Nat} (hd : d < 32) (hy : y < 4294967296) : y * 2 ^ d ≤ 9223372034707292160 := by
  have h1 : y * 2 ^ d ≤ 4294967295 * 2147483648 := Nat.mul_le_mul (by omega) (pow31 hd)
  omega
theorem or_shl {c y d : Nat} (hc : c < 2 ^ d) (hd : d < 32) (hy : y < 4294967296) : Go.bits .or .u64 (c : Int) (IntKind.u64.wrap ((y : Int) * 2 ^ d)) = ((c + y * 2 ^ d : Nat) : Int) := by
  have hb := shl_bound hd hy
  have hp := pow31 hd
  have e : (y : Int) * 2 ^ d = ((y * 2 ^ d : Nat) : Int) := by rw [Int.natCast_mul, Int.natCast_pow]; rfl
  rw [e, show IntKind.u64.wrap ((y * 2 ^ d : Nat) : Int) = ((y * 2 ^ d : Nat) : Int) from by rw [show ∀ n, IntKind.u64.wrap n = n % 18446744073709551616 from fun n => by simp [IntKind.wrap, IntKind.bits, IntKind.signed]]; omega]
  rw [u64_or_nat _ _ (by omega) (by omega), Nat.or_comm, nat_join d (y * 2 ^ d) c (Nat.mul_mod_left _ _) hc, Nat.add_comm]

set_option maxHeartbeats 1000000 in
theorem shiftUp_any (w : World) (g o n cap : Nat) (pre s post : List Nat) (bo : Option Addr) (m bcap N d : Nat) (xs : List Nat)
    (h : Sg w g o n pre s post) (hb : Sl N w bo m bcap xs) (hN : N ≤ g) (hn : n ≤ 1099511627776) (hm : n = m + 1) (hd : d < 32) :
    Calls Try.prog 52 #[.slice (some ⟨g, o, none⟩) n cap, .slice bo m bcap, .int .i64 (d : Int)] w fun e w' => ∃ s', e = .returned (.tuple #[]) ∧ Fr g w w' ∧ Sg w' g o n pre s' post ∧ val s' = val xs * 2 ^ d := by
  subst hm
  go_enter Try.func52, Try.ntmps52
  go_wp2
  go_loopw [6, 11] (fun cv iv wr => ∃ k c s', k ≤ m ∧ cv = .int .u64 ((c : Nat) : Int) ∧ iv = .int .i64 ((k : Nat) : Int) ∧ Fr g w wr ∧ Sg wr g o (m + 1) pre s' post ∧ ShInv s' xs (m + 1) (2 ^ d) k c) (fun _ iv _ => m - (intOf iv).toNat)
  case atStart => exact ⟨0, 0, s, Nat.zero_le _, rfl, rfl, Fr.refl _ _, h, ShInv.start h.lim h.len (Nat.two_pow_pos d)⟩
  case round =>
    obtain ⟨k, c, s', hk, rfl, rfl, hf, hs, hi⟩ := hrel
    have hc1 := hi.car
    by_cases hlt : k < m
    · obtain ⟨x, hx1, hx2, hx3, HX⟩ := hs.cell k (by omega)
      obtain ⟨b, p, y, rfl, hy0, hy1, hy2, HY⟩ := (hb.fr hf hN).cell k hlt
      have HC : Hid (c < 2 ^ d) := hc1
      clear hc1
      go_wp2
      rw [or_shl HC.out hd hy2]
      have hsb := shl_bound hd hy2
      have hpw := pow31 hd
      have hc2 := HC.out
      have ev : ((c + y * 2 ^ d : Nat) : Int) % 4294967296 = (((c + y * 2 ^ d) % 4294967296 : Nat) : Int) := by omega
      have ec : ((c + y * 2 ^ d : Nat) : Int) / 4294967296 = (((c + y * 2 ^ d) / 4294967296 : Nat) : Int) := by omega
      rw [ev, ec]
      go_roundw
      case rel => exact ⟨k + 1, (c + y * 2 ^ d) / 4294967296, s'.set k ((c + y * 2 ^ d) % 4294967296), by omega, rfl, by go_num, hf.set _ _, hs.set (by omega) (by omega),
        hi.step (by omega) (hb.lim.getD k) (by rw [← HY.out]) (by rw [← HY.out])⟩
      case measure => simp [intOf]; omega
    · obtain rfl : k = m := by omega
      obtain ⟨x, hx1, hx2, hx3, HX⟩ := hs.cell k (by omega)
      have hpw := pow31 hd
      have hc3 : c < 4294967296 := by omega
      have HD : Hid (val (s'.set k c) = val xs * 2 ^ d) := by
        have := hi.done hb.len (by omega)
        rwa [List.take_of_length_le (by rw [List.length_set, hs.len]; exact Nat.le_refl _)] at this
      clear hpw hc1
      go_wp2
      go_end0
      exact ⟨s'.set k c, rfl, hf.set _ _, hs.set (by omega) hc3, HD.out⟩

/-- 2^n as limbs and bits. -/
theorem shl_math (n : Nat) : 2 ^ n = Bp (n / 32) * 2 ^ (n % 32) := by
  rw [Bp_two, ← Nat.pow_add]; congr 1; omega

end Go.Proofs.Ythcclkjccaoniaa
