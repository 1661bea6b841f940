/- nat.Norm, Of, Bits. -/
import Derived.Test.YthcclkjccaoniaaW2
namespace Go.Proofs.Ythcclkjccaoniaa
open Go.RowKit M

set_option maxHeartbeats 400000 in
theorem bits_any (w : World) (ao : Option Addr) (n cap N : Nat) (xs : List Nat) (h : Sl N w ao n cap xs) (hlen : n ≤ 1099511627776) :
    Calls Try.prog 49 #[.slice ao n cap] w fun e w' => e = .returned (.int .i64 (nb (val xs))) ∧ w = w' := by
  go_enter Try.func49, Try.ntmps49
  go_wp2_with fail
  refine (trimmed_any N _ ao n cap xs h hlen).mono ?_
  rintro e w1 ⟨rfl, a1, n1, c1, rfl, s1, l1⟩
  by_cases h0 : n1 = 0
  · have HV : Hid (nb (val xs) = 0) := by
      have := s1.len
      rw [h0] at this
      rw [toL_length_zero.1 this]; exact nb_zero
    subst h0
    go_wp2
    go_ret
    exact ⟨ret1 (by rw [HV.out]; rfl), rfl⟩
  · obtain ⟨m, rfl⟩ : ∃ m, n1 = m + 1 := ⟨n1 - 1, by omega⟩
    obtain ⟨b, o, x, rfl, hb, hcell, hx, HX⟩ := s1.cell m (by omega)
    have hv : val xs ≠ 0 := by
      intro h0
      have := s1.len
      rw [h0, toL_zero] at this
      simp at this
    have hl : Lib.bitLen x ≤ 32 := Lib.bitLenAux_le _ _ _ (by omega)
    have HV : Hid (nb (val xs) = 32 * m + Lib.bitLen x) := by
      show nb (val xs) = _
      rw [bitLen_nb x hx, nb_toL hv, s1.len, HX.out]
      rfl
    have hc := fun w => len32_any x w (by omega) (by omega)
    rw [Int.toNat_natCast] at hc
    generalize Lib.bitLen x = l at hl HV hc
    have HC : Hid _ := hc
    clear hc hv
    go_wp2_with (go_at_call 59; refine (HC.out _).mono ?_; rintro e w' ⟨rfl, rfl⟩)
    go_ret
    exact ⟨ret1 (by rw [HV.out]; omega), rfl⟩

set_option maxHeartbeats 400000 in
theorem of_any (w : World) (x : Nat) (hx : x < 18446744073709551616) :
    Calls Try.prog 22 #[.int .u64 (x : Int)] w (Gives w (toL x)) := by
  have he : u32s [x % 4294967296, x / 4294967296] = #[.int .u32 ((x : Int) % 4294967296), .int .u32 ((x : Int) / 4294967296)] := by simp [u32s]
  have hv : val [x % 4294967296, x / 4294967296] = x := by simp only [val_cons, val_nil]; omega
  have hb : Below w.heap.size w (w.alloc (.cells (u32s [x % 4294967296, x / 4294967296]) 32)) := (Below.refl _ _).alloc (Nat.le_refl _) _
  have hs : Sl (w.heap.size + 1) (w.alloc (.cells (u32s [x % 4294967296, x / 4294967296]) 32)) (some ⟨w.heap.size, 0, none⟩) 2 2 [x % 4294967296, x / 4294967296] :=
    Sl.own (Own.alloc _ _) (Lim.mk (by omega) (Lim.mk (by omega) Lim.nil)) (by omega) 2 2 rfl (by omega)
  rw [he] at hs hb
  have HV : Hid _ := hv
  clear he hv
  go_enter Try.func22, Try.ntmps22
  go_wp2_with fail
  refine (trimmed_any _ _ _ 2 2 _ hs (by omega)).mono ?_
  rintro e w1 ⟨rfl, a1, n1, c1, rfl, s1, l1⟩
  rw [HV.out] at s1
  go_wp2
  go_ret
  exact ⟨a1, n1, c1, rfl, by simpa using s1, hb⟩

set_option maxHeartbeats 400000 in
theorem norm_any (w : World) (ao : Option Addr) (n cap : Nat) (xs : List Nat) (h : Sl w.heap.size w ao n cap xs) (hlen : n ≤ 1099511627776) :
    Calls Try.prog 16 #[.slice ao n cap] w (Gives w (toL (val xs))) := by
  go_enter Try.func16, Try.ntmps16
  go_wp2_with fail
  refine (trimmed_any _ _ ao n cap xs h hlen).mono ?_
  rintro e w1 ⟨rfl, a1, n1, c1, rfl, s1, l1⟩
  have hmk := fun u => make_run n1 (by omega) u
  by_cases h0 : n1 = 0
  · have HV : Hid (toL (val xs) = []) := List.eq_nil_of_length_eq_zero (by rw [s1.len, h0])
    subst h0
    go_wp2
    go_ret
    rw [HV.out]
    exact ⟨none, 0, 0, rfl, Sl.nil _ _, Below.refl _ _⟩
  · have hn0 : ((n1 : Int) == 0) = false := by simp [h0]
    have hcp := copy_run w a1 n1 c1 n1 _ s1 (Nat.le_refl _)
    rw [Nat.sub_self, List.replicate_zero, List.append_nil] at hcp
    have hs : Sl (w.heap.size + 1) (w.alloc (.cells (u32s (toL (val xs))) 32)) (some ⟨w.heap.size, 0, none⟩) n1 n1 (toL (val xs)) :=
      Sl.own (Own.alloc _ _) (Lim_toL _) (by omega) n1 n1 s1.len (Nat.le_refl _)
    have hb : Below w.heap.size w (w.alloc (.cells (u32s (toL (val xs))) 32)) := (Below.refl _ _).alloc (Nat.le_refl _) _
    go_wp2
    go_ret
    exact ⟨_, n1, n1, rfl, by simpa using hs, hb⟩

end Go.Proofs.Ythcclkjccaoniaa
