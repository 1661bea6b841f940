/- math/bits' functions that nat calls, by their contracts. -/
import Derived.Test.YthcclkjccaoniaaBase
import Derived.Lib.BitFns
namespace Go.Proofs.Ythcclkjccaoniaa
open Go.RowKit M

set_option maxHeartbeats 400000 in
theorem add32_any (x y c : Int) (w : World) (hx0 : 0 ≤ x) (hx : x < 4294967296) (hy0 : 0 ≤ y) (hy : y < 4294967296) (hc0 : 0 ≤ c) (hc : c ≤ 1) :
    Calls Try.prog 55 #[.int .u32 x, .int .u32 y, .int .u32 c] w fun e w' => e = .returned (.tuple #[.int .u32 ((x + y + c) % 4294967296), .int .u32 ((x + y + c) / 4294967296)]) ∧ w = w' := by
  go_enter Try.func55, Try.ntmps55
  go_wp2
  go_ret2
  exact ⟨rfl, rfl⟩

theorem ret1 {k : IntKind} {a a' : Int} (h : a = a') : Ending.returned (.int k a) = .returned (.int k a') := by rw [h]
theorem ret2 {k l : IntKind} {a b a' b' : Int} (h : a = a') (h' : b = b') : Ending.returned (.tuple #[.int k a, .int l b]) = .returned (.tuple #[.int k a', .int l b']) := by rw [h, h']

/-- The borrow. -/
def bor (x y c : Int) : Int := if x < y + c then 1 else 0
theorem bor_01 (x y c : Int) : 0 ≤ bor x y c ∧ bor x y c ≤ 1 := by unfold bor; split <;> omega

theorem top31 (n : Nat) (h : n < 4294967296) : n / 2147483648 = (n.testBit 31).toNat := by
  rw [Nat.testBit_eq_decide_div_mod_eq]
  have : n / 2 ^ 31 % 2 = n / 2147483648 := by omega
  rw [this]
  by_cases h1 : n / 2147483648 = 1
  · simp [h1]
  · have : n / 2147483648 = 0 := by omega
    simp [this]

theorem top31_iff (n : Nat) (h : n < 4294967296) : n.testBit 31 = decide (2147483648 ≤ n) := by
  rw [Nat.testBit_eq_decide_div_mod_eq, decide_eq_decide]
  have : n / 2 ^ 31 % 2 = n / 2147483648 := by omega
  rw [this]; omega

theorem borrow_bits (x y c : Int) (hx0 : 0 ≤ x) (hx : x < 4294967296) (hy0 : 0 ≤ y) (hy : y < 4294967296) (hc0 : 0 ≤ c) (hc : c ≤ 1) :
    Go.bits .or .u32 (Go.bits .and .u32 (Go.bits .xor .u32 IntKind.u32.max x) y) (Go.bits .and .u32 (Go.bits .xor .u32 IntKind.u32.max (Go.bits .xor .u32 x y)) ((x - y - c) % 4294967296)) / 2147483648 = bor x y c := by
  obtain ⟨a, rfl⟩ := Int.eq_ofNat_of_zero_le hx0
  obtain ⟨b, rfl⟩ := Int.eq_ofNat_of_zero_le hy0
  obtain ⟨d, hd⟩ := Int.eq_ofNat_of_zero_le (show 0 ≤ ((a : Int) - b - c) % 4294967296 from by omega)
  have hd1 : d < 4294967296 := by omega
  have ha : a < 4294967296 := by omega
  have hb : b < 4294967296 := by omega
  rw [hd, show IntKind.u32.max = ((4294967295 : Nat) : Int) from rfl]
  rw [u32_xor_nat _ _ (by omega) ha, u32_xor_nat a b ha hb]
  have h1 : 4294967295 ^^^ a < 4294967296 := Nat.xor_lt_two_pow (n := 32) (by omega) ha
  have h2 : a ^^^ b < 4294967296 := Nat.xor_lt_two_pow (n := 32) ha hb
  rw [u32_and_nat _ _ h1 hb, u32_xor_nat _ _ (by omega) h2]
  have h3 : 4294967295 ^^^ (a ^^^ b) < 4294967296 := Nat.xor_lt_two_pow (n := 32) (by omega) h2
  rw [u32_and_nat _ _ h3 hd1]
  have h4 : (4294967295 ^^^ a) &&& b < 4294967296 := Nat.and_lt_two_pow (n := 32) _ hb
  have h5 : (4294967295 ^^^ (a ^^^ b)) &&& d < 4294967296 := Nat.and_lt_two_pow (n := 32) _ hd1
  rw [u32_or_nat _ _ h4 h5]
  have h6 := Nat.or_lt_two_pow (n := 32) h4 h5
  have key := top31 _ h6
  rw [show ((2147483648 : Int)) = ((2147483648 : Nat) : Int) from rfl, ← Int.natCast_ediv, key]
  simp only [Nat.testBit_or, Nat.testBit_and, Nat.testBit_xor, top31_iff a ha, top31_iff b hb, top31_iff d hd1, top31_iff 4294967295 (by omega)]
  unfold bor
  by_cases g1 : 2147483648 ≤ a <;> by_cases g2 : 2147483648 ≤ b <;> by_cases g3 : 2147483648 ≤ d <;> simp [g1, g2, g3] <;> omega

set_option maxHeartbeats 400000 in
theorem sub32_any (x y c : Int) (w : World) (hx0 : 0 ≤ x) (hx : x < 4294967296) (hy0 : 0 ≤ y) (hy : y < 4294967296) (hc0 : 0 ≤ c) (hc : c ≤ 1) :
    Calls Try.prog 62 #[.int .u32 x, .int .u32 y, .int .u32 c] w fun e w' => e = .returned (.tuple #[.int .u32 ((x - y - c) % 4294967296), .int .u32 (bor x y c)]) ∧ w = w' := by
  have hb : Hid _ := borrow_bits x y c hx0 hx hy0 hy hc0 hc
  have hs : ¬ IntKind.u32.signed = true := by decide
  go_enter Try.func62, Try.ntmps62
  go_wp2
  go_ret2
  exact ⟨ret2 (by omega) hb.out, rfl⟩

theorem bitLenAux_nb : ∀ (f x : Nat), x < 2 ^ f → Lib.bitLenAux f x = nb x
  | 0, x, h => by obtain rfl : x = 0 := by simpa using h
                  rfl
  | f + 1, x, h => by
    unfold Lib.bitLenAux
    by_cases h0 : x = 0
    · subst h0; rfl
    · rw [if_neg h0, bitLenAux_nb f (x / 2) (by rw [Nat.pow_succ] at h; omega), nb_half h0]
theorem bitLen_nb (x : Nat) (h : x < 4294967296) : Lib.bitLen x = nb x := bitLenAux_nb 64 x (by omega)

theorem tab_run (i : Int) (h0 : 0 ≤ i) (h1 : i < 256) : ∃ l : Nat, l = Lib.bitLen i.toNat ∧ l ≤ 8 ∧ ∀ w, (Instr.index 9 (.string Lib.len8tab) (.int .u8 i)).run Try.prog w = .ok (.int .u8 (l : Int)) w :=
  ⟨_, rfl, Lib.bitLen_le8' i h0 (by omega), fun w => by
    rw [Lib.run_index_len8tab w 9 .u8 i Try.underlying9 h0 (by omega), Lib.len8_of i h0 (by omega)]⟩

set_option maxHeartbeats 400000 in
theorem len32_any (x : Int) (w : World) (h0 : 0 ≤ x) (h1 : x ≤ 4294967295) :
    Calls Try.prog 59 #[.int .u32 x] w fun e w' => e = .returned (.int .i64 (Lib.bitLen x.toNat)) ∧ w = w' := by
  rcases (show x < 256 ∨ (256 ≤ x ∧ x < 65536) ∨ (65536 ≤ x ∧ x < 16777216) ∨ 16777216 ≤ x from by omega) with g | ⟨g, g'⟩ | ⟨g, g'⟩ | g
  · obtain ⟨l, hl, h8, hi⟩ := tab_run x h0 g
    have hle : ¬ 65536 ≤ x := by omega
    have hle' : ¬ 256 ≤ x := by omega
    rw [← hl]
    clear hl
    go_enter Try.func59, Try.ntmps59
    go_wp2
    go_ret
    exact ⟨ret1 (by omega), rfl⟩
  · obtain ⟨l, hl, h8, hi⟩ := tab_run (x / 256) (by omega) (by omega)
    have s := Lib.bitLen_shift8 x.toNat (by omega) (by omega)
    rw [show (x / 256).toNat = x.toNat / 256 from by omega] at hl
    rw [s, ← hl]
    have hle : ¬ 65536 ≤ x := by omega
    clear hl s
    go_enter Try.func59, Try.ntmps59
    go_wp2
    go_ret
    exact ⟨ret1 (by omega), rfl⟩
  · obtain ⟨l, hl, h8, hi⟩ := tab_run (x / 65536) (by omega) (by omega)
    have s := Lib.bitLen_shift16 x.toNat (by omega) (by omega)
    rw [show (x / 65536).toNat = x.toNat / 65536 from by omega] at hl
    rw [s, ← hl]
    have hle : ¬ 256 ≤ x / 65536 := by omega
    clear hl s
    go_enter Try.func59, Try.ntmps59
    go_wp2
    go_ret
    exact ⟨ret1 (by omega), rfl⟩
  · obtain ⟨l, hl, h8, hi⟩ := tab_run (x / 65536 / 256) (by omega) (by omega)
    have s := Lib.bitLen_shift24 x.toNat (by omega) (by omega)
    rw [show (x / 65536 / 256).toNat = x.toNat / 16777216 from by omega] at hl
    rw [s, ← hl]
    have hle : 256 ≤ x / 65536 := by omega
    clear hl s
    go_enter Try.func59, Try.ntmps59
    go_wp2
    go_ret
    exact ⟨ret1 (by omega), rfl⟩

set_option maxHeartbeats 400000 in
theorem order_any (b : Bool) (w : World) :
    Calls Try.prog 39 #[.bool b] w fun e w' => e = .returned (.int .i64 (if b then -1 else 1)) ∧ w' = w := by
  cases b
  all_goals
    go_enter Try.func39, Try.ntmps39
    go_wp2
    go_ret
    exact ⟨rfl, rfl⟩

set_option maxHeartbeats 400000 in
theorem lz32_any (x : Int) (w : World) (h0 : 0 ≤ x) (h1 : x ≤ 4294967295) :
    Calls Try.prog 51 #[.int .u32 x] w fun e w' => e = .returned (.int .i64 (32 - (Lib.bitLen x.toNat : Int))) ∧ w = w' := by
  obtain ⟨l, hl⟩ : ∃ l, l = Lib.bitLen x.toNat := ⟨_, rfl⟩
  have hl2 : l ≤ 32 := by rw [hl]; exact Lib.bitLenAux_le _ _ _ (by omega)
  have hc := fun w => len32_any x w h0 h1
  rw [← hl] at hc ⊢
  have HC : Hid _ := hc
  clear hc hl
  go_enter Try.func51, Try.ntmps51
  go_wp2_with (go_at_call 59; refine (HC.out _).mono ?_; rintro e w' ⟨rfl, rfl⟩)
  go_ret
  exact ⟨rfl, rfl⟩

end Go.Proofs.Ythcclkjccaoniaa
