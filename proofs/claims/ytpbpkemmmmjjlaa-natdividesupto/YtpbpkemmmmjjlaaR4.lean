/- penumbraref01: Double, Shl, at. -/
import Derived.Test.YtpbpkemmmmjjlaaR3
namespace Go.Proofs.Ytpbpkemmmmjjlaa
open Go.RowKit M

/-- Doubling, limb by limb, the answer growing: after k rounds. -/
structure RdInv (xs zs : List Nat) (c0 k c : Nat) : Prop where
  len : zs.length = k
  car : c ≤ 1
  sum : val zs + Bp k * c = 2 * val (xs.take k) + c0
theorem RdInv.step {xs zs : List Nat} {c0 k c x : Nat} (h : RdInv xs zs c0 k c) (hx : x = xs.getD k 0) (hx2 : x < 4294967296) :
    RdInv xs (zs ++ [(2 * x + c) % 4294967296]) c0 (k + 1) ((2 * x + c) / 4294967296) := by
  have hc := h.car
  refine ⟨by rw [List.length_append, h.len]; rfl, by omega, ?_⟩
  rw [val_snoc, val_take_succ' xs, Bp_succ, h.len, ← hx]
  have e : (2 * x + c) % 4294967296 + 4294967296 * ((2 * x + c) / 4294967296) = x + x + c := by omega
  have e2 := congrArg (Bp k * ·) e
  simp only [Nat.mul_add] at e2
  rw [Nat.mul_assoc, Nat.mul_left_comm 4294967296 (Bp k)]
  have := h.sum
  omega
theorem RdInv.done {xs zs : List Nat} {c0 k c : Nat} (h : RdInv xs zs c0 k c) (hx : xs.length ≤ k) : val (zs ++ [c]) = 2 * val xs + c0 := by
  have hs := h.sum
  rw [List.take_of_length_le hx] at hs
  rw [val_snoc, h.len, hs]

set_option maxHeartbeats 1000000 in
theorem double_any (w : World) (ao : Option Addr) (n cap : Nat) (xs : List Nat) (h : Sl w.heap.size w ao n cap xs) (hlen : n ≤ 1099511627770) :
    Calls Try.prog 36 #[.slice ao n cap, .bool false] w (Gives w (toL (2 * val xs))) := by
  go_enter Try.func36, Try.ntmps36
  go_wp2
  go_loopw [5, 6, 7] (fun v cv iv wr => ∃ k c zs, k ≤ n ∧ cv = .int .u64 ((c : Nat) : Int) ∧ iv = .int .i64 ((k : Nat) : Int) ∧ Below w.heap.size w wr ∧ Ow w.heap.size wr v zs ∧ RdInv xs zs 0 k c) (fun _ _ iv _ => n - (intOf iv).toNat)
  case atStart => exact ⟨0, 0, [], by omega, rfl, rfl, (Below.refl _ _).alloc (Nat.le_refl _) _, Ow.start w, ⟨rfl, by omega, by simp [val]⟩⟩
  case round =>
    obtain ⟨k, c, zs, hk, rfl, rfl, hbl, how, hi⟩ := hrel
    have hc1 := hi.car
    have hbs := hbl.size
    have HZ : Hid (zs.length = k) := hi.len
    by_cases hlt : k < n
    · obtain ⟨b, p, x, rfl, hx0, hx1, hx2, HX⟩ := (h.below hbl).cell k hlt
      have HS : Hid _ := hi.step HX.out hx2
      go_wp2_with (at_builtin; refine wp_app1 rfl _ _ rfl ((2 * x + c) % 4294967296) _ how rfl rfl (by omega) (by omega) (by rw [HZ.out]; omega) hbs ?_; intro v' w2 hv hb2)
      have ec : ((2 : Int) * x + c) / 4294967296 = (((2 * x + c) / 4294967296 : Nat) : Int) := by omega
      rw [ec]
      go_roundw
      case rel => exact ⟨k + 1, _, _, by omega, rfl, by go_num, hbl.trans hb2, hv, HS.out⟩
      case measure => simp [intOf]; omega
    · obtain rfl : k = n := by omega
      have HD : Hid _ := hi.done (by rw [h.len]; exact Nat.le_refl _)
      clear hi
      go_wp2_with (first | (at_builtin; refine wp_app1 rfl _ _ rfl c _ how rfl rfl (by omega) (by omega) (by rw [HZ.out]; omega) hbs ?_; intro v' w2 hv hb2; obtain ⟨fo, fm, fc, rfl, sf⟩ := hv.sl) | fail)
      refine (rnorm_any w2 fo fm fc _ sf (by rw [← sf.len, List.length_append, HZ.out, List.length_singleton]; omega)).mono ?_
      rintro e w3 ⟨a3, n3, c3, rfl, s3, b3⟩
      go_wp2
      go_ret
      rw [HD.out] at s3
      have b4 := hbl.trans hb2
      exact ⟨a3, n3, c3, rfl, s3, b4.trans (b3.mono b4.size)⟩

/-- A row of zeros that the call itself made, as a slice that is appended to. -/
theorem Ow.zeros (w : World) (k : Nat) (hk : k ≤ 1099511627776) : Ow w.heap.size (w.alloc (.cells (u32s (List.replicate k 0)) 38)) (.slice (some ⟨w.heap.size, 0, none⟩) k k) (List.replicate k 0) := by
  refine ⟨Lim.rep k, ?_⟩
  have := World.ownsRow_lit (base := w.heap.size) (e := 38) (size := 1) w (u32s (List.replicate k 0)) k (Nat.le_refl _) (by unfold maxLen; omega) (by rw [u32s_size]; simp)
  rw [List.length_replicate]
  simpa [u32s] using this

set_option maxHeartbeats 1000000 in
theorem rshl_any (w : World) (ao : Option Addr) (n cap d : Nat) (xs : List Nat) (h : Sl w.heap.size w ao n cap xs) (hlen : n ≤ 549755813888) (hd : d ≤ 65536) :
    Calls Try.prog 23 #[.slice ao n cap, .int .i64 (d : Int)] w fun e w' => ∃ ro rn rc, e = .returned (.tuple #[.slice ro rn rc, .bool true]) ∧ Sl w'.heap.size w' ro rn rc (toL (val xs * 2 ^ d)) ∧ Below w.heap.size w w' := by
  have hd0 : decide ((d : Int) < 0) = false := by simp
  have hd1 : decide ((65536 : Int) < (d : Int)) = false := by simp; omega
  have hmk := fun u => make_run (d / 32) (by omega) u
  rw [show ((d / 32 : Nat) : Int) = (d : Int) / 32 from by omega] at hmk
  have hb0 : Below w.heap.size w (w.alloc (.cells (u32s (List.replicate (d / 32) 0)) 38)) := (Below.refl _ _).alloc (Nat.le_refl _) _
  have ow0 := Ow.zeros w (d / 32) (by omega)
  have hs0 := h.later hb0
  go_enter Try.func23, Try.ntmps23
  go_wp2_with (at_builtin; refine wp_appS rfl _ _ rfl ow0 hs0 rfl rfl (by simp; omega) hb0.size ?_; intro v' w2 hv hb2; obtain ⟨fo, fm, fc, rfl, sf⟩ := hv.sl)
  have hv0 : val (List.replicate (d / 32) 0 ++ xs) = val xs * (Bp (d / 32) * 2 ^ 0) := by
    rw [val_append, val_rep, List.length_replicate, Nat.zero_add, Nat.pow_zero, Nat.mul_one, Nat.mul_comm]
  have hfm : fm ≤ n + d / 32 + 0 := by rw [← sf.len, List.length_append, List.length_replicate, h.len]; omega
  have hb3 : Below w.heap.size w w2 := hb0.trans hb2
  have HV0 : Hid _ := hv0
  clear hv0 hmk ow0 hs0 hb0 hv hb2 hd0 hd1
  go_loopw [6, 7] (fun v iv wr => ∃ j fo fm fc zs, v = .slice fo fm fc ∧ Sl wr.heap.size wr fo fm fc zs ∧ j ≤ d % 32 ∧ iv = .int .i64 ((j : Nat) : Int) ∧ Below w.heap.size w wr ∧ Hid (val zs = val xs * (Bp (d / 32) * 2 ^ j)) ∧ fm ≤ n + d / 32 + j) (fun _ iv _ => d % 32 - (intOf iv).toNat)
  case atStart => exact ⟨0, fo, fm, fc, _, rfl, sf, Nat.zero_le _, rfl, hb3, HV0, hfm⟩
  case round =>
    clear sf hfm hb3 HV0
    obtain ⟨j, fo, fm, fc, zs, rfl, sf, hj, rfl, hb3, HV, hfm⟩ := hrel
    by_cases hlt : j < d % 32
    · have hm : (d : Int) % 32 = ((d % 32 : Nat) : Int) := by omega
      have hdl : decide ((j : Int) < (d : Int) % 32) = true := by simp; omega
      have HN : Hid (2 * val zs = val xs * (Bp (d / 32) * 2 ^ (j + 1))) := by
        show 2 * val zs = _
        rw [HV.out, Nat.pow_succ, Nat.mul_comm (2 ^ j) 2, Nat.mul_left_comm (Bp (d / 32)) 2, Nat.mul_left_comm (val xs) 2]
      clear hm
      go_wp2_with fail
      refine (double_any wr fo fm fc zs sf (by omega)).mono ?_
      rintro e w3 ⟨a3, n3, c3, rfl, s3, b3⟩
      have hn3 : n3 ≤ n + d / 32 + (j + 1) := by
        refine Nat.le_trans (s3.ln (i := fm + 1) ?_) (by omega)
        have := sf.lt
        rw [Bp_succ]; omega
      rw [HN.out] at s3
      go_wp2
      go_roundw
      case rel => exact ⟨j + 1, a3, n3, c3, _, rfl, s3, by omega, by go_num, hb3.trans (b3.mono hb3.size), val_toL _, hn3⟩
      case measure => simp [intOf]; omega
    · have hdl : decide ((j : Int) < (d : Int) % 32) = false := by simp; omega
      obtain rfl : j = d % 32 := by omega
      have HN : Hid (val zs = val xs * 2 ^ d) := by
        show val zs = _
        rw [HV.out, ← shl_math]
      go_wp2_with fail
      refine (rnorm_any wr fo fm fc zs sf (by omega)).mono ?_
      rintro e w3 ⟨a3, n3, c3, rfl, s3, b3⟩
      rw [HN.out] at s3
      go_wp2
      go_ret2
      exact ⟨a3, n3, c3, rfl, s3, hb3.trans (b3.mono hb3.size)⟩

set_option maxHeartbeats 400000 in
theorem rshl_no (w : World) (ao : Option Addr) (n cap : Nat) (d : Int) (hd : d < 0 ∨ 65536 < d) :
    Calls Try.prog 23 #[.slice ao n cap, .int .i64 d] w fun e w' => e = .returned (.tuple #[.slice none 0 0, .bool false]) ∧ w = w' := by
  rcases hd with hd | hd
  · have hd0 : decide (d < 0) = true := by simpa using hd
    go_enter Try.func23, Try.ntmps23
    go_wp2
    go_ret2
    exact ⟨rfl, rfl⟩
  · have hd0 : decide (d < 0) = false := by simp; omega
    have hd1 : decide ((65536 : Int) < d) = true := by simpa using hd
    go_enter Try.func23, Try.ntmps23
    go_wp2
    go_ret2
    exact ⟨rfl, rfl⟩

end Go.Proofs.Ytpbpkemmmmjjlaa
