/- root.trimmed; math/bits.Len64; root.rootOfWord. -/
import Derived.Test.YthcclkjccaoniaaGa
namespace Go.Proofs.Ythcclkjccaoniaa
open Go.RowKit M

theorem limbs_of_bits (V : Nat) : (nb V + 31) / 32 = (toL V).length := by
  by_cases h : V = 0
  · subst h; rfl
  · have h1 := nb_toL h
    have h2 := toL_length_pos h
    have h3 := toL_last h
    have h4 := (Lim_toL V).getD ((toL V).length - 1)
    obtain ⟨g1, g2, _, _⟩ := shift_top (l := nb ((toL V).getD ((toL V).length - 1) 0)) h3 rfl h4
    omega

set_option maxHeartbeats 400000 in
theorem rtrimmed_any (N : Nat) (w : World) (ao : Option Addr) (n cap : Nat) (xs : List Nat) (h : Sl N w ao n cap xs) (hlen : n ≤ 1099511627776) :
    Calls Try.prog 29 #[.slice ao n cap] w fun e w' => e = .returned (.slice ao (toL (val xs)).length cap) ∧ w = w' := by
  have hcap := h.le
  have hl := limbs_of_bits (val xs)
  have hk : (toL (val xs)).length ≤ n := toL_len_le h.lt
  have hnb : nb (val xs) ≤ 35184372088832 := by omega
  generalize (toL (val xs)).length = k at *
  have hb := bits_any w ao n cap N xs h hlen
  generalize nb (val xs) = b at *
  have HB : Hid _ := hb
  clear hb
  go_enter Try.func29, Try.ntmps29
  go_wp2_with fail
  refine Calls.mono HB.out ?_
  rintro e w' ⟨rfl, rfl⟩
  have e1 : ((b : Int) + 32 - 1) / 32 = (k : Int) := by omega
  have e2 : ((b : Int) + 32 - 1).tdiv 32 = (k : Int) := by rw [Int.tdiv_eq_ediv_of_nonneg (by omega)]; exact e1
  go_wp2
  go_ret
  exact ⟨rfl, rfl⟩

set_option maxHeartbeats 1000000 in
theorem len64_any (x : Int) (w : World) (h0 : 0 ≤ x) (h1 : x ≤ 18446744073709551615) :
    Calls Try.prog 58 #[.int .u64 x] w fun e w' => e = .returned (.int .i64 (Lib.bitLen x.toNat)) ∧ w = w' := by
  rcases (show x < 256 ∨ (256 ≤ x ∧ x < 65536) ∨ (65536 ≤ x ∧ x < 16777216) ∨ (16777216 ≤ x ∧ x < 4294967296) ∨ (4294967296 ≤ x ∧ x < 1099511627776) ∨ (1099511627776 ≤ x ∧ x < 281474976710656) ∨ (281474976710656 ≤ x ∧ x < 72057594037927936) ∨ 72057594037927936 ≤ x from by omega) with g | ⟨g, g'⟩ | ⟨g, g'⟩ | ⟨g, g'⟩ | ⟨g, g'⟩ | ⟨g, g'⟩ | ⟨g, g'⟩ | g
  · obtain ⟨l, hl, h8, hi⟩ := tab_run (x) (by omega) (by omega)
    rw [← hl]
    have f1 : decide ((4294967296 : Int) ≤ x) = false := by simp; omega
    have f2 : decide ((65536 : Int) ≤ x) = false := by simp; omega
    have f3 : decide ((256 : Int) ≤ x) = false := by simp; omega
    clear hl
    go_enter Try.func58, Try.ntmps58
    go_wp2
    go_ret
    exact ⟨ret1 (by omega), rfl⟩
  · obtain ⟨l, hl, h8, hi⟩ := tab_run (x / 256) (by omega) (by omega)
    have s := Lib.bitLen_shift8 x.toNat (by omega) (by omega)
    rw [show (x / 256).toNat = x.toNat / 256 from by omega] at hl
    rw [s, ← hl]
    have f1 : decide ((4294967296 : Int) ≤ x) = false := by simp; omega
    have f2 : decide ((65536 : Int) ≤ x) = false := by simp; omega
    have f3 : decide ((256 : Int) ≤ x) = true := by simp; omega
    clear hl s
    go_enter Try.func58, Try.ntmps58
    go_wp2
    go_ret
    exact ⟨ret1 (by omega), rfl⟩
  · obtain ⟨l, hl, h8, hi⟩ := tab_run (x / 65536) (by omega) (by omega)
    have s := Lib.bitLen_shift16 x.toNat (by omega) (by omega)
    rw [show (x / 65536).toNat = x.toNat / 65536 from by omega] at hl
    rw [s, ← hl]
    have f1 : decide ((4294967296 : Int) ≤ x) = false := by simp; omega
    have f2 : decide ((65536 : Int) ≤ x) = true := by simp; omega
    have f3 : decide ((256 : Int) ≤ x / 65536) = false := by simp; omega
    clear hl s
    go_enter Try.func58, Try.ntmps58
    go_wp2
    go_ret
    exact ⟨ret1 (by omega), rfl⟩
  · obtain ⟨l, hl, h8, hi⟩ := tab_run (x / 65536 / 256) (by omega) (by omega)
    have s := Lib.bitLen_shift24 x.toNat (by omega) (by omega)
    rw [show (x / 65536 / 256).toNat = x.toNat / 16777216 from by omega] at hl
    rw [s, ← hl]
    have f1 : decide ((4294967296 : Int) ≤ x) = false := by simp; omega
    have f2 : decide ((65536 : Int) ≤ x) = true := by simp; omega
    have f3 : decide ((256 : Int) ≤ x / 65536) = true := by simp; omega
    clear hl s
    go_enter Try.func58, Try.ntmps58
    go_wp2
    go_ret
    exact ⟨ret1 (by omega), rfl⟩
  · obtain ⟨l, hl, h8, hi⟩ := tab_run (x / 4294967296) (by omega) (by omega)
    have s := Lib.bitLen_shift32 x.toNat (by omega) (by omega)
    rw [show (x / 4294967296).toNat = x.toNat / 4294967296 from by omega] at hl
    rw [s, ← hl]
    have f1 : decide ((4294967296 : Int) ≤ x) = true := by simp; omega
    have f2 : decide ((65536 : Int) ≤ x / 4294967296) = false := by simp; omega
    have f3 : decide ((256 : Int) ≤ x / 4294967296) = false := by simp; omega
    clear hl s
    go_enter Try.func58, Try.ntmps58
    go_wp2
    go_ret
    exact ⟨ret1 (by omega), rfl⟩
  · obtain ⟨l, hl, h8, hi⟩ := tab_run (x / 4294967296 / 256) (by omega) (by omega)
    have s := Lib.bitLen_shift40 x.toNat (by omega) (by omega)
    rw [show (x / 4294967296 / 256).toNat = x.toNat / 1099511627776 from by omega] at hl
    rw [s, ← hl]
    have f1 : decide ((4294967296 : Int) ≤ x) = true := by simp; omega
    have f2 : decide ((65536 : Int) ≤ x / 4294967296) = false := by simp; omega
    have f3 : decide ((256 : Int) ≤ x / 4294967296) = true := by simp; omega
    clear hl s
    go_enter Try.func58, Try.ntmps58
    go_wp2
    go_ret
    exact ⟨ret1 (by omega), rfl⟩
  · obtain ⟨l, hl, h8, hi⟩ := tab_run (x / 4294967296 / 65536) (by omega) (by omega)
    have s := Lib.bitLen_shift48 x.toNat (by omega) (by omega)
    rw [show (x / 4294967296 / 65536).toNat = x.toNat / 281474976710656 from by omega] at hl
    rw [s, ← hl]
    have f1 : decide ((4294967296 : Int) ≤ x) = true := by simp; omega
    have f2 : decide ((65536 : Int) ≤ x / 4294967296) = true := by simp; omega
    have f3 : decide ((256 : Int) ≤ x / 4294967296 / 65536) = false := by simp; omega
    clear hl s
    go_enter Try.func58, Try.ntmps58
    go_wp2
    go_ret
    exact ⟨ret1 (by omega), rfl⟩
  · obtain ⟨l, hl, h8, hi⟩ := tab_run (x / 4294967296 / 65536 / 256) (by omega) (by omega)
    have s := Lib.bitLen_shift56 x.toNat (by omega) (by omega)
    rw [show (x / 4294967296 / 65536 / 256).toNat = x.toNat / 72057594037927936 from by omega] at hl
    rw [s, ← hl]
    have f1 : decide ((4294967296 : Int) ≤ x) = true := by simp; omega
    have f2 : decide ((65536 : Int) ≤ x / 4294967296) = true := by simp; omega
    have f3 : decide ((256 : Int) ≤ x / 4294967296 / 65536) = true := by simp; omega
    clear hl s
    go_enter Try.func58, Try.ntmps58
    go_wp2
    go_ret
    exact ⟨ret1 (by omega), rfl⟩

theorem bitLen_nb64 (x : Nat) (h : x < 18446744073709551616) : Lib.bitLen x = nb x := bitLenAux_nb 64 x (by omega)

theorem word_start {a : Nat} (h : a < 18446744073709551616) : (nb a + 1) / 2 ≤ 32 ∧ isq a ≤ 2 ^ ((nb a + 1) / 2) ∧ 2 ^ ((nb a + 1) / 2) ≤ 4294967296 ∧ 0 < 2 ^ ((nb a + 1) / 2) := by
  have h1 : nb a ≤ 64 := by
    rw [← bitLen_nb64 a h]; exact Lib.bitLen_le a 64 (by omega) (by omega)
  have h2 := isq_le_pow (nb_lt a)
  have h3 : 2 ^ ((nb a + 1) / 2) ≤ 2 ^ 32 := Nat.pow_le_pow_right (by omega) (by omega)
  exact ⟨by omega, by omega, by omega, Nat.two_pow_pos _⟩

set_option maxHeartbeats 1000000 in
theorem rootOfWord_any (w : World) (a : Nat) (ha : a < 18446744073709551616) :
    Calls Try.prog 48 #[.int .u64 (a : Int)] w fun e w' => e = .returned (.int .u64 ((isq a : Nat) : Int)) ∧ w = w' := by
  by_cases h0 : a = 0
  · subst h0
    go_enter Try.func48, Try.ntmps48
    go_wp2
    go_ret
    exact ⟨rfl, rfl⟩
  · have hab : ((a : Int) == 0) = false := by rw [beq_eq_false_iff_ne]; omega
    obtain ⟨k1, k2, k3, k4⟩ := word_start ha
    have hc := fun w => len64_any a w (by omega) (by omega)
    rw [Int.toNat_natCast, bitLen_nb64 a ha] at hc
    have hnb : nb a ≤ 64 := by rw [← bitLen_nb64 a ha]; exact Lib.bitLen_le a 64 (by omega) (by omega)
    generalize nb a = b at *
    have HC : Hid _ := hc
    have K2 : Hid _ := k2
    obtain ⟨s, hs⟩ : ∃ s, s = (b + 1) / 2 := ⟨_, rfl⟩
    rw [← hs] at K2 k1 k3 k4
    have e1 : ((b : Int) + 1) / 2 = (s : Int) := by omega
    have e2 : ((b : Int) + 1).tdiv 2 = (s : Int) := by rw [Int.tdiv_eq_ediv_of_nonneg (by omega)]; exact e1
    have e3 : (2 : Int) ^ s = ((2 ^ s : Nat) : Int) := by rw [Int.natCast_pow]; rfl
    have e4 : (2 : Int) ^ s % 18446744073709551616 = ((2 ^ s : Nat) : Int) := by rw [e3]; omega
    have E3 : Hid _ := e3
    have E4 : Hid _ := e4
    clear hc k2 hs e3 e4
    go_enter Try.func48, Try.ntmps48
    go_wp2_with fail
    refine Calls.mono (HC.out _) ?_
    rintro e w' ⟨rfl, rfl⟩
    go_wp2
    rw [show IntKind.u64.wrap ((2 : Int) ^ s) = ((2 ^ s : Nat) : Int) from by rw [IntKind.wrap_u64]; exact E4.out]
    go_loop [3] (fun v => ∃ g : Nat, v = .int .u64 (g : Int) ∧ Hid (isq a ≤ g) ∧ g ≤ 4294967296 ∧ 0 < g) (fun v => (intOf v).toNat)
    case atStart => exact ⟨2 ^ s, rfl, K2.out, k3, k4⟩
    case round =>
      clear e1 e2 k1 k3 k4 K2 E3 E4 HC hnb
      obtain ⟨g, rfl, HI, hg1, hg0⟩ := hrel
      have hgb : ((g : Int) == 0) = false := by rw [beq_eq_false_iff_ne]; omega
      obtain ⟨q, hq⟩ : ∃ q, q = a / g := ⟨_, rfl⟩
      have ed : (a : Int) / (g : Int) = (q : Int) := by rw [hq, Int.natCast_ediv]
      have et : (a : Int).tdiv (g : Int) = (q : Int) := by rw [Int.tdiv_eq_ediv_of_nonneg (by omega)]; exact ed
      have hqa : q < 18446744073709551616 := by have := Nat.div_le_self a g; omega
      have HQ : Hid _ := hq
      clear hq
      by_cases hlt : q < g
      · have HL : Hid (isq a < g) := by
          show isq a < g
          have h1 := isq_le a
          have h2 := HQ.out
          have h3 := HI.out
          apply Nat.lt_of_le_of_ne h3
          intro he
          have h4 : a < g * g := by rw [h2] at hlt; exact (Nat.div_lt_iff_lt_mul hg0).1 hlt
          rw [he] at h1
          omega
        have HN : Hid (isq a ≤ (g + q) / 2) := by show isq a ≤ (g + q) / 2; rw [HQ.out]; exact newton_ge hg0
        have HP : Hid (0 < isq a) := isq_pos h0
        have hlt' : (q : Int) < (g : Int) := by omega
        go_wp2
        go_round
        case rel => exact ⟨(g + q) / 2, by go_num, HN, by omega, by have := HN.out; have := HP.out; omega⟩
        case measure => simp [intOf]; omega
      · have HE : Hid (isq a = g) := by
          show isq a = g
          have h3 := HI.out
          apply Nat.le_antisymm h3
          apply Nat.le_of_not_lt; intro hl
          have h1 := isq_lt a
          have h2 := sq_le (show isq a + 1 ≤ g from hl)
          have h4 : g * g ≤ a := by rw [HQ.out] at hlt; exact (Nat.le_div_iff_mul_le hg0).1 (by omega)
          omega
        have hge : decide ((q : Int) < (g : Int)) = false := by simp; omega
        go_wp2
        go_ret
        exact ⟨ret1 (by rw [HE.out]), rfl⟩
end Go.Proofs.Ythcclkjccaoniaa
