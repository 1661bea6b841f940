/- nat.shiftUp, Shl. -/
import Derived.Test.YtpbpkemmmmjjlaaW6
namespace Go.Proofs.Ytpbpkemmmmjjlaa
open Go.RowKit M

theorem pow31 {d : Nat} (hd : d < 32) : 2 ^ d ≤ 2147483648 := by
  have : 2 ^ d ≤ 2 ^ 31 := Nat.pow_le_pow_right (by omega) (by omega)
  omega
theorem shl_bound {y d : Nat} (hd : d < 32) (hy : y < 4294967296) : y * 2 ^ d ≤ 9223372034707292160 := by
  have h1 : y * 2 ^ d ≤ 4294967295 * 2147483648 := Nat.mul_le_mul (by omega) (pow31 hd)
  omega
theorem or_shl {c y d : Nat} (hc : c < 2 ^ d) (hd : d < 32) (hy : y < 4294967296) : Go.bits .or .u64 (c : Int) (IntKind.u64.wrap ((y : Int) * 2 ^ d)) = ((c + y * 2 ^ d : Nat) : Int) := by
  have hb := shl_bound hd hy
  have hp := pow31 hd
  have e : (y : Int) * 2 ^ d = ((y * 2 ^ d : Nat) : Int) := by rw [Int.natCast_mul, Int.natCast_pow]; rfl
  rw [e, show IntKind.u64.wrap ((y * 2 ^ d : Nat) : Int) = ((y * 2 ^ d : Nat) : Int) from by rw [show ∀ n, IntKind.u64.wrap n = n % 18446744073709551616 from fun n => by simp [IntKind.wrap, IntKind.bits, IntKind.signed]]; omega]
  rw [u64_or_nat _ _ (by omega) (by omega), Nat.or_comm, nat_join d (y * 2 ^ d) c (Nat.mul_mod_left _ _) hc, Nat.add_comm]

set_option maxHeartbeats 1000000 in
theorem shiftUp_any (w : World) (g o n cap : Nat) (pre s post : List Nat) (bo : Option Addr) (m bcap N d : Nat) (xs : List Nat)
    (h : Sg w g o n pre s post) (hb : Sl N w bo m bcap xs) (hN : N ≤ g) (hn : n ≤ 1099511627776) (hm : n = m + 1) (hd : d < 32) :
    Calls Try.prog 35 #[.slice (some ⟨g, o, none⟩) n cap, .slice bo m bcap, .int .i64 (d : Int)] w fun e w' => ∃ s', e = .returned (.tuple #[]) ∧ Fr g w w' ∧ Sg w' g o n pre s' post ∧ val s' = val xs * 2 ^ d := by
  subst hm
  go_enter Try.func35, Try.ntmps35
  go_wp2
  go_loopw [6, 11] (fun cv iv wr => ∃ k c s', k ≤ m ∧ cv = .int .u64 ((c : Nat) : Int) ∧ iv = .int .i64 ((k : Nat) : Int) ∧ Fr g w wr ∧ Sg wr g o (m + 1) pre s' post ∧ ShInv s' xs (m + 1) (2 ^ d) k c) (fun _ iv _ => m - (intOf iv).toNat)
  case atStart => exact ⟨0, 0, s, Nat.zero_le _, rfl, rfl, Fr.refl _ _, h, ShInv.start h.lim h.len (Nat.two_pow_pos d)⟩
  case round =>
    obtain ⟨k, c, s', hk, rfl, rfl, hf, hs, hi⟩ := hrel
    have hc1 := hi.car
    by_cases hlt : k < m
    · obtain ⟨x, hx1, hx2, hx3, HX⟩ := hs.cell k (by omega)
      obtain ⟨b, p, y, rfl, hy0, hy1, hy2, HY⟩ := (hb.fr hf hN).cell k hlt
      have HC : Hid (c < 2 ^ d) := hc1
      clear hc1
      go_wp2
      rw [or_shl HC.out hd hy2]
      have hsb := shl_bound hd hy2
      have hpw := pow31 hd
      have hc2 := HC.out
      have ev : ((c + y * 2 ^ d : Nat) : Int) % 4294967296 = (((c + y * 2 ^ d) % 4294967296 : Nat) : Int) := by omega
      have ec : ((c + y * 2 ^ d : Nat) : Int) / 4294967296 = (((c + y * 2 ^ d) / 4294967296 : Nat) : Int) := by omega
      rw [ev, ec]
      go_roundw
      case rel => exact ⟨k + 1, (c + y * 2 ^ d) / 4294967296, s'.set k ((c + y * 2 ^ d) % 4294967296), by omega, rfl, by go_num, hf.set _ _, hs.set (by omega) (by omega),
        hi.step (by omega) (hb.lim.getD k) (by rw [← HY.out]) (by rw [← HY.out])⟩
      case measure => simp [intOf]; omega
    · obtain rfl : k = m := by omega
      obtain ⟨x, hx1, hx2, hx3, HX⟩ := hs.cell k (by omega)
      have hpw := pow31 hd
      have hc3 : c < 4294967296 := by omega
      have HD : Hid (val (s'.set k c) = val xs * 2 ^ d) := by
        have := hi.done hb.len (by omega)
        rwa [List.take_of_length_le (by rw [List.length_set, hs.len]; exact Nat.le_refl _)] at this
      clear hpw hc1
      go_wp2
      go_end0
      exact ⟨s'.set k c, rfl, hf.set _ _, hs.set (by omega) hc3, HD.out⟩

/-- 2^n as limbs and bits. -/
theorem shl_math (n : Nat) : 2 ^ n = Bp (n / 32) * 2 ^ (n % 32) := by
  rw [Bp_two, ← Nat.pow_add]; congr 1; omega

set_option maxHeartbeats 1000000 in
theorem shl_any (w : World) (ao : Option Addr) (n cap d : Nat) (xs : List Nat) (h : Sl w.heap.size w ao n cap xs) (hlen : n ≤ 549755813888) (hd : d ≤ 65536) :
    Calls Try.prog 22 #[.slice ao n cap, .int .i64 (d : Int)] w fun e w' => ∃ ro rn rc, e = .returned (.tuple #[.slice ro rn rc, .bool true]) ∧ Sl w'.heap.size w' ro rn rc (toL (val xs * 2 ^ d)) ∧ Below w.heap.size w w' := by
  have hd0 : decide ((d : Int) < 0) = false := by simp
  have hd1 : decide ((65536 : Int) < (d : Int)) = false := by simp; omega
  go_enter Try.func22, Try.ntmps22
  go_wp2_with fail
  refine (trimmed_any _ _ ao n cap xs h (by omega)).mono ?_
  rintro e w1 ⟨rfl, a1, n1, c1, rfl, s1, l1⟩
  clear h
  by_cases h0 : n1 = 0
  · have HV : Hid (val xs = 0) := by
      have := s1.len
      rw [h0] at this
      exact toL_length_zero.1 this
    have hz : ((n1 : Int) == 0) = true := by simp [h0]
    go_wp2
    go_ret2
    rw [HV.out, Nat.zero_mul, toL_zero]
    exact ⟨none, 0, 0, rfl, Sl.nil _ _, Below.refl _ _⟩
  · have hz : ((n1 : Int) == 0) = false := by simp [h0]
    have hmk := fun u => make_run (d / 32 + n1 + 1) (by omega) u
    have em : ((d / 32 + n1 + 1 : Nat) : Int) = (d : Int) / 32 + (n1 : Int) + 1 := by omega
    rw [em] at hmk
    clear em
    go_wp2_with fail
    have hb0 : Below w.heap.size w (w.alloc (.cells (u32s (List.replicate (d / 32 + n1 + 1) 0)) 38)) := (Below.refl _ _).alloc (Nat.le_refl _) _
    have hs0 : Own (w.alloc (.cells (u32s (List.replicate (d / 32 + n1 + 1) 0)) 38)) w.heap.size (List.replicate (d / 32 + n1 + 1) 0) := Own.alloc _ _
    have hz0 : (w.alloc (.cells (u32s (List.replicate (d / 32 + n1 + 1) 0)) 38)).heap.size = w.heap.size + 1 := by simp
    have u1 := s1.below hb0
    generalize w.alloc (.cells (u32s (List.replicate (d / 32 + n1 + 1) 0)) 38) = w2 at *
    rw [show d / 32 + n1 + 1 - d / 32 = n1 + 1 from by omega, show (d : Int) % 32 = ((d % 32 : Nat) : Int) from by omega]
    refine (shiftUp_any w2 w.heap.size (d / 32) (n1 + 1) _ _ _ _ a1 n1 c1 w.heap.size (d % 32) _ (Sg.cut hs0 (Lim.rep _) (d / 32) (n1 + 1) (by simp; omega)) u1 (Nat.le_refl _) (by omega) rfl (by omega)).mono ?_
    rintro e w3 ⟨s', rfl, hf, hs, hv⟩
    rw [List.take_replicate, List.drop_replicate, show min (d / 32) (d / 32 + n1 + 1) = d / 32 from by omega, show d / 32 + n1 + 1 - (d / 32 + (n1 + 1)) = 0 from by omega, List.replicate_zero] at hs
    have hv2 : val (List.replicate (d / 32) 0 ++ s') = val xs * 2 ^ d := by
      rw [val_append, val_rep, List.length_replicate, hv, val_toL, shl_math d]
      simp [Nat.mul_left_comm]
    have HV : Hid _ := hv2
    have ho := hs.own
    rw [List.append_nil] at ho
    have hsl : Sl (w.heap.size + 1) w3 (some ⟨w.heap.size, 0, none⟩) (d / 32 + n1 + 1) (d / 32 + n1 + 1) (List.replicate (d / 32) 0 ++ s') :=
      Sl.own ho ((Lim.rep _).append hs.lim) (by omega) _ _ (by rw [List.length_append, List.length_replicate, hs.len]; omega) (Nat.le_refl _)
    clear hv hv2 hmk
    go_wp2_with fail
    refine (trimmed_any _ _ _ _ _ _ hsl (by omega)).mono ?_
    rintro e w4 ⟨rfl, a3, n3, c3, rfl, s3, l3⟩
    go_wp2
    go_ret2
    rw [HV.out] at s3
    exact ⟨a3, n3, c3, rfl, by rw [hf.size, hz0]; exact s3, hb0.trans (hf.below (Nat.le_refl _))⟩

set_option maxHeartbeats 400000 in
theorem shl_no (w : World) (ao : Option Addr) (n cap : Nat) (d : Int) (hd : d < 0 ∨ 65536 < d) :
    Calls Try.prog 22 #[.slice ao n cap, .int .i64 d] w fun e w' => e = .returned (.tuple #[.slice none 0 0, .bool false]) ∧ w = w' := by
  rcases hd with hd | hd
  · have hd0 : decide (d < 0) = true := by simpa using hd
    go_enter Try.func22, Try.ntmps22
    go_wp2
    go_ret2
    exact ⟨rfl, rfl⟩
  · have hd0 : decide (d < 0) = false := by simp; omega
    have hd1 : decide ((65536 : Int) < d) = true := by simpa using hd
    go_enter Try.func22, Try.ntmps22
    go_wp2
    go_ret2
    exact ⟨rfl, rfl⟩

end Go.Proofs.Ytpbpkemmmmjjlaa
