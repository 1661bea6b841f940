/- penumbraref01: Double, Shl, at. -/
import Derived.Test.YthcclkjccaoniaaR3
namespace Go.Proofs.Ythcclkjccaoniaa
open Go.RowKit M

/-- Doubling, limb by limb, the answer growing: after k rounds. -/
structure RdInv (xs zs : List Nat) (c0 k c : Nat) : Prop where
  len : zs.length = k
  car : c ≤ 1
  sum : val zs + Bp k * c = 2 * val (xs.take k) + c0
theorem RdInv.step {xs zs : List Nat} {c0 k c x : Nat} (h : RdInv xs zs c0 k c) (hx : x = xs.getD k 0) (hx2 : x < 4294967296) :
    RdInv xs (zs ++ [(2 * x + c) % 4294967296]) c0 (k + 1) ((2 * x + c) / 4294967296) := by
  have hc := h.car
  refine ⟨by rw [List.length_append, h.len]; rfl, by omega, ?_⟩
  rw [val_snoc, val_take_succ' xs, Bp_succ, h.len, ← hx]
  have e : (2 * x + c) % 4294967296 + 4294967296 * ((2 * x + c) / 4294967296) = x + x + c := by omega
  have e2 := congrArg (Bp k * ·) e
  simp only [Nat.mul_add] at e2
  rw [Nat.mul_assoc, Nat.mul_left_comm 4294967296 (Bp k)]
  have := h.sum
  omega
theorem RdInv.done {xs zs : List Nat} {c0 k c : Nat} (h : RdInv xs zs c0 k c) (hx : xs.length ≤ k) : val (zs ++ [c]) = 2 * val xs + c0 := by
  have hs := h.sum
  rw [List.take_of_length_le hx] at hs
  rw [val_snoc, h.len, hs]

set_option maxHeartbeats 1000000 in
theorem double_any (w : World) (ao : Option Addr) (n cap : Nat) (xs : List Nat) (h : Sl w.heap.size w ao n cap xs) (hlen : n ≤ 1099511627770) :
    Calls Try.prog 44 #[.slice ao n cap, .bool false] w (Gives w (toL (2 * val xs))) := by
  go_enter Try.func44, Try.ntmps44
  go_wp2
  go_loopw [5, 6, 7] (fun v cv iv wr => ∃ k c zs, k ≤ n ∧ cv = .int .u64 ((c : Nat) : Int) ∧ iv = .int .i64 ((k : Nat) : Int) ∧ Below w.heap.size w wr ∧ Ow w.heap.size wr v zs ∧ RdInv xs zs 0 k c) (fun _ _ iv _ => n - (intOf iv).toNat)
  case atStart => exact ⟨0, 0, [], by omega, rfl, rfl, (Below.refl _ _).alloc (Nat.le_refl _) _, Ow.start w, ⟨rfl, by omega, by simp [val]⟩⟩
  case round =>
    obtain ⟨k, c, zs, hk, rfl, rfl, hbl, how, hi⟩ := hrel
    have hc1 := hi.car
    have hbs := hbl.size
    have HZ : Hid (zs.length = k) := hi.len
    by_cases hlt : k < n
    · obtain ⟨b, p, x, rfl, hx0, hx1, hx2, HX⟩ := (h.below hbl).cell k hlt
      have HS : Hid _ := hi.step HX.out hx2
      go_wp2_with (at_builtin; refine wp_app1 rfl _ _ rfl ((2 * x + c) % 4294967296) _ how rfl rfl (by omega) (by omega) (by rw [HZ.out]; omega) hbs ?_; intro v' w2 hv hb2)
      have ec : ((2 : Int) * x + c) / 4294967296 = (((2 * x + c) / 4294967296 : Nat) : Int) := by omega
      rw [ec]
      go_roundw
      case rel => exact ⟨k + 1, _, _, by omega, rfl, by go_num, hbl.trans hb2, hv, HS.out⟩
      case measure => simp [intOf]; omega
    · obtain rfl : k = n := by omega
      have HD : Hid _ := hi.done (by rw [h.len]; exact Nat.le_refl _)
      clear hi
      go_wp2_with (first | (at_builtin; refine wp_app1 rfl _ _ rfl c _ how rfl rfl (by omega) (by omega) (by rw [HZ.out]; omega) hbs ?_; intro v' w2 hv hb2; obtain ⟨fo, fm, fc, rfl, sf⟩ := hv.sl) | fail)
      refine (rnorm_any w2 fo fm fc _ sf (by rw [← sf.len, List.length_append, HZ.out, List.length_singleton]; omega)).mono ?_
      rintro e w3 ⟨a3, n3, c3, rfl, s3, b3⟩
      go_wp2
      go_ret
      rw [HD.out] at s3
      have b4 := hbl.trans hb2
      exact ⟨a3, n3, c3, rfl, s3, b4.trans (b3.mono b4.size)⟩

/-- A row of zeros that the call itself made, as a slice that is appended to. -/
theorem Ow.zeros (w : World) (k : Nat) (hk : k ≤ 1099511627776) : Ow w.heap.size (w.alloc (.cells (u32s (List.replicate k 0)) 32)) (.slice (some ⟨w.heap.size, 0, none⟩) k k) (List.replicate k 0) := by
  refine ⟨Lim.rep k, ?_⟩
  have := World.ownsRow_lit (base := w.heap.size) (e := 32) (size := 1) w (u32s (List.replicate k 0)) k (Nat.le_refl _) (by unfold maxLen; omega) (by rw [u32s_size]; simp)
  rw [List.length_replicate]
  simpa [u32s] using this

end Go.Proofs.Ythcclkjccaoniaa
