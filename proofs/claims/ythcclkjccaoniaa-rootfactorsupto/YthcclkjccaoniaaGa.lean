/- root.limbAt, word, gcdOfWords, trimmed; math/bits.Len64; root.rootOfWord. -/
import Derived.Test.YthcclkjccaoniaaMf
import Derived.Test.YthcclkjccaoniaaL0
namespace Go.Proofs.Ythcclkjccaoniaa
open Go.RowKit M

set_option maxHeartbeats 400000 in
theorem limbAt_any (N : Nat) (w : World) (ao : Option Addr) (n cap k : Nat) (xs : List Nat) (h : Sl N w ao n cap xs) :
    Calls Try.prog 43 #[.slice ao n cap, .int .i64 (k : Int)] w fun e w' => e = .returned (.int .u32 ((xs.getD k 0 : Nat) : Int)) ∧ w = w' := by
  by_cases hk : k < n
  · obtain ⟨b, o, x, rfl, hb, hcell, hx, HX⟩ := h.cell k hk
    rw [← HX.out]
    clear HX
    go_enter Try.func43, Try.ntmps43
    go_wp2
    go_ret
    exact ⟨rfl, rfl⟩
  · rw [getD_beyond (by rw [h.len]; omega)]
    have hk2 : n ≤ k := by omega
    go_enter Try.func43, Try.ntmps43
    go_wp2
    go_ret
    exact ⟨rfl, rfl⟩

theorem val_two {xs : List Nat} {n : Nat} (h : xs.length = n) (hn : n ≤ 2) : val xs = xs.getD 1 0 * 4294967296 + xs.getD 0 0 := by
  have e1 := val_take_succ' xs 1
  have e0 := val_take_succ' xs 0
  rw [val_take_zero, Bp_zero] at e0
  rw [List.take_of_length_le (by omega), e0, Bp_succ, Bp_zero] at e1
  omega

set_option maxHeartbeats 400000 in
theorem word_any (N : Nat) (w : World) (ao : Option Addr) (n cap : Nat) (xs : List Nat) (h : Sl N w ao n cap xs) (hn : n ≤ 2) :
    Calls Try.prog 24 #[.slice ao n cap] w fun e w' => e = .returned (.int .u64 ((val xs : Nat) : Int)) ∧ w = w' := by
  have hv := val_two h.len hn
  have l1 := h.lim.getD 1
  have l0 := h.lim.getD 0
  have c1 := limbAt_any N w ao n cap 1 xs h
  have c0 := limbAt_any N w ao n cap 0 xs h
  have hj := or_join (r := xs.getD 1 0) (x := xs.getD 0 0) l1 l0
  rw [← hv] at hj
  generalize xs.getD 1 0 = y1 at *
  generalize xs.getD 0 0 = y0 at *
  have C1 : Hid _ := c1
  have C0 : Hid _ := c0
  have HJ : Hid _ := hj
  clear c1 c0 hv hj
  go_enter Try.func24, Try.ntmps24
  go_wp2_with fail
  refine Calls.mono C1.out ?_
  rintro e w' ⟨rfl, rfl⟩
  go_wp2_with fail
  refine Calls.mono C0.out ?_
  rintro e w' ⟨rfl, rfl⟩
  go_wp2
  go_ret
  exact ⟨ret1 (by rw [← HJ.out]), rfl⟩

theorem gcd_turn (A B : Nat) : Nat.gcd B (A % B) = Nat.gcd A B := by
  rw [Nat.gcd_comm B, ← Nat.gcd_rec, Nat.gcd_comm]

set_option maxHeartbeats 400000 in
theorem gcdOfWords_any (w : World) (a b : Nat) (ha : a < 18446744073709551616) (hb : b < 18446744073709551616) :
    Calls Try.prog 23 #[.int .u64 (a : Int), .int .u64 (b : Int)] w fun e w' => e = .returned (.int .u64 ((Nat.gcd a b : Nat) : Int)) ∧ Qt w w' := by
  go_enter Try.func23, Try.ntmps23
  go_wp2
  go_loopw [0, 1] (fun av bv wr => ∃ x y : Nat, av = .int .u64 (x : Int) ∧ bv = .int .u64 (y : Int) ∧ x < 18446744073709551616 ∧ y < 18446744073709551616 ∧ Nat.gcd x y = Nat.gcd a b ∧ Qt w wr) (fun _ bv _ => (intOf bv).toNat)
  case atStart => exact ⟨a, b, rfl, rfl, ha, hb, rfl, Qt.refl _⟩
  case round =>
    obtain ⟨x, y, rfl, rfl, hx, hy, hg, hq⟩ := hrel
    have HG : Hid _ := hg
    clear hg
    by_cases h0 : y = 0
    · subst h0
      go_wp2
      go_ret
      exact ⟨ret1 (by rw [← HG.out, Nat.gcd_zero_right]), hq⟩
    · have hyb : ((y : Int) != 0) = true := by rw [bne_iff_ne]; omega
      have hy0 : ((y : Int) == 0) = false := by rw [beq_eq_false_iff_ne]; omega
      have hm := Nat.mod_lt x (Nat.pos_of_ne_zero h0)
      have HM : Hid _ := hm
      have em : Int.tmod (x : Int) (y : Int) = ((x % y : Nat) : Int) := by rw [Int.tmod_eq_emod_of_nonneg (by omega)]; rw [Int.natCast_emod]
      clear hm
      go_wp2
      go_quiet (fail)
      go_wp2
      go_roundw
      case rel => exact ⟨y, x % y, rfl, by go_num, hy, by have := HM.out; omega, by rw [gcd_turn]; exact HG.out, hq.drewN _⟩
      case measure => simp [intOf]; exact HM.out
end Go.Proofs.Ythcclkjccaoniaa
