/- penumbraref01: Add, Sub. -/
import Derived.Test.YthcclkjccaoniaaR1
namespace Go.Proofs.Ythcclkjccaoniaa
open Go.RowKit M

theorem val_snoc (zs : List Nat) (v : Nat) : val (zs ++ [v]) = val zs + Bp zs.length * v := by rw [val_append, val_cons, val_nil, Nat.mul_zero, Nat.add_zero]

theorem val_take_drop' (xs : List Nat) (k : Nat) : val xs = val (xs.take k) + Bp k * val (xs.drop k) := by
  by_cases h : k ≤ xs.length
  · exact val_take_drop xs k h
  · rw [List.take_of_length_le (by omega), List.drop_of_length_le (by omega)]; simp [val]

/-- Sums, limb by limb, the answer growing: after k rounds. -/
structure RaInv (xs ys zs : List Nat) (k c : Nat) : Prop where
  len : zs.length = k
  car : c ≤ 1
  sum : val zs + Bp k * c = val (xs.take k) + val (ys.take k)
theorem RaInv.step {xs ys zs : List Nat} {k c x y : Nat} (h : RaInv xs ys zs k c) (hx : x = xs.getD k 0) (hy : y = ys.getD k 0) (hx2 : x < 4294967296) (hy2 : y < 4294967296) :
    RaInv xs ys (zs ++ [(x + y + c) % 4294967296]) (k + 1) ((x + y + c) / 4294967296) := by
  have hc := h.car
  refine ⟨by rw [List.length_append, h.len]; rfl, by omega, ?_⟩
  rw [val_snoc, val_take_succ' xs, val_take_succ' ys, Bp_succ, h.len, ← hx, ← hy]
  have e : (x + y + c) % 4294967296 + 4294967296 * ((x + y + c) / 4294967296) = x + y + c := by omega
  have e2 := congrArg (Bp k * ·) e
  simp only [Nat.mul_add] at e2
  rw [Nat.mul_assoc, Nat.mul_left_comm 4294967296 (Bp k)]
  have := h.sum
  omega
theorem RaInv.done {xs ys zs : List Nat} {k c : Nat} (h : RaInv xs ys zs k c) (hx : xs.length ≤ k) (hy : ys.length ≤ k) : val (zs ++ [c]) = val xs + val ys := by
  have hs := h.sum
  rw [List.take_of_length_le hx, List.take_of_length_le hy] at hs
  rw [val_snoc, h.len, hs]

set_option maxHeartbeats 1000000 in
theorem radd_any (w : World) (ao bo : Option Addr) (n cap n2 cap2 : Nat) (xs ys : List Nat) (h : Sl w.heap.size w ao n cap xs) (h2 : Sl w.heap.size w bo n2 cap2 ys) (hlen : n ≤ 549755813888) (hlen2 : n2 ≤ 549755813888) :
    Calls Try.prog 31 #[.slice ao n cap, .slice bo n2 cap2] w (Gives w (toL (val xs + val ys))) := by
  go_enter Try.func31, Try.ntmps31
  go_wp2
  go_loopw [5, 6, 7] (fun v cv iv wr => ∃ k c zs, k ≤ 549755813888 ∧ cv = .int .u64 ((c : Nat) : Int) ∧ iv = .int .i64 ((k : Nat) : Int) ∧ Below w.heap.size w wr ∧ Ow w.heap.size wr v zs ∧ RaInv xs ys zs k c) (fun _ _ iv _ => (n + n2) - (intOf iv).toNat)
  case atStart => exact ⟨0, 0, [], by omega, rfl, rfl, (Below.refl _ _).alloc (Nat.le_refl _) _, Ow.start w, ⟨rfl, by omega, by simp [val]⟩⟩
  case round =>
    obtain ⟨k, c, zs, hk, rfl, rfl, hbl, how, hi⟩ := hrel
    have hc1 := hi.car
    have t1 := h.below hbl
    have t2 := h2.below hbl
    by_cases hend : k < n ∨ k < n2
    · have cx := fun w (hs : Sl w.heap.size w ao n cap xs) => limb_any w ao n cap _ k xs hs
      have cy := fun w (hs : Sl w.heap.size w bo n2 cap2 ys) => limb_any w bo n2 cap2 _ k ys hs
      obtain ⟨x, hx⟩ : ∃ x, x = xs.getD k 0 := ⟨_, rfl⟩
      obtain ⟨y, hy⟩ : ∃ y, y = ys.getD k 0 := ⟨_, rfl⟩
      have hx2 : x < 4294967296 := by rw [hx]; exact h.lim.getD k
      have hy2 : y < 4294967296 := by rw [hy]; exact h2.lim.getD k
      have HS : Hid _ := hi.step hx hy hx2 hy2
      rw [← hx] at cx
      rw [← hy] at cy
      have CX : Hid _ := cx
      have CY : Hid _ := cy
      have t1' : Sl wr.heap.size wr ao n cap xs := t1.mono hbl.size
      have t2' : Sl wr.heap.size wr bo n2 cap2 ys := t2.mono hbl.size
      have hzl := hi.len
      have HZ : Hid (zs.length = k) := hzl
      have hbs := hbl.size
      clear hx hy cx cy hzl
      by_cases ha : k < n
      · have hg : decide ((k : Int) < (n : Int)) = true := by simpa using ha
        go_wp2_with fail
        refine (CX.out _ t1').mono ?_
        rintro e w' ⟨rfl, rfl⟩
        go_wp2_with fail
        refine (CY.out _ t2').mono ?_
        rintro e w' ⟨rfl, rfl⟩
        go_wp2_with (at_builtin; refine wp_app1 rfl _ _ rfl ((x + y + c) % 4294967296) _ how rfl rfl (by omega) (by omega) (by rw [HZ.out]; omega) hbs ?_; intro v' w2 hv hb2)
        have ec : ((x : Int) + y + c) / 4294967296 = (((x + y + c) / 4294967296 : Nat) : Int) := by omega
        rw [ec]
        go_roundw
        case rel => exact ⟨k + 1, _, _, by omega, rfl, by go_num, hbl.trans hb2, hv, HS.out⟩
        case measure => simp [intOf]; omega
      · have hg : decide ((k : Int) < (n : Int)) = false := by simpa using ha
        have hg2 : decide ((k : Int) < (n2 : Int)) = true := by simp; omega
        go_wp2_with fail
        refine (CX.out _ t1').mono ?_
        rintro e w' ⟨rfl, rfl⟩
        go_wp2_with fail
        refine (CY.out _ t2').mono ?_
        rintro e w' ⟨rfl, rfl⟩
        go_wp2_with (at_builtin; refine wp_app1 rfl _ _ rfl ((x + y + c) % 4294967296) _ how rfl rfl (by omega) (by omega) (by rw [HZ.out]; omega) hbs ?_; intro v' w2 hv hb2)
        have ec : ((x : Int) + y + c) / 4294967296 = (((x + y + c) / 4294967296 : Nat) : Int) := by omega
        rw [ec]
        go_roundw
        case rel => exact ⟨k + 1, _, _, by omega, rfl, by go_num, hbl.trans hb2, hv, HS.out⟩
        case measure => simp [intOf]; omega
    · have hg : decide ((k : Int) < (n : Int)) = false := by simp; omega
      have hg2 : decide ((k : Int) < (n2 : Int)) = false := by simp; omega
      have HD : Hid _ := hi.done (by rw [h.len]; omega) (by rw [h2.len]; omega)
      have HZ : Hid (zs.length = k) := hi.len
      have hbs := hbl.size
      clear hi
      go_wp2_with (first | (at_builtin; refine wp_app1 rfl _ _ rfl c _ how rfl rfl (by omega) (by omega) (by rw [HZ.out]; omega) hbs ?_; intro v' w2 hv hb2; obtain ⟨fo, fm, fc, rfl, sf⟩ := hv.sl) | fail)
      refine (rnorm_any w2 fo fm fc _ sf (by rw [← sf.len, List.length_append, HZ.out, List.length_singleton]; omega)).mono ?_
      rintro e w3 ⟨a3, n3, c3, rfl, s3, b3⟩
      go_wp2
      go_ret
      rw [HD.out] at s3
      have b4 := hbl.trans hb2
      exact ⟨a3, n3, c3, rfl, s3, b4.trans (b3.mono b4.size)⟩

/-- Differences, limb by limb, the answer growing: after k rounds. -/
structure RsInv (xs ys zs : List Nat) (k c : Nat) : Prop where
  len : zs.length = k
  bor : c ≤ 1
  dif : val zs + val (ys.take k) = val (xs.take k) + Bp k * c
theorem RsInv.step {xs ys zs : List Nat} {k c x y d : Nat} (h : RsInv xs ys zs k c) (hx : x = xs.getD k 0) (hy : y = ys.getD k 0) (hx2 : x < 4294967296) (hy2 : y < 4294967296) (hd : d + y + c = 4294967296 + x) :
    RsInv xs ys (zs ++ [d % 4294967296]) (k + 1) (1 - d / 4294967296) := by
  have hc := h.bor
  refine ⟨by rw [List.length_append, h.len]; rfl, by omega, ?_⟩
  rw [val_snoc, val_take_succ' xs, val_take_succ' ys, Bp_succ, h.len, ← hx, ← hy]
  have e : d % 4294967296 + y + c = x + 4294967296 * (1 - d / 4294967296) := by omega
  have e2 := congrArg (Bp k * ·) e
  simp only [Nat.mul_add] at e2
  rw [Nat.mul_assoc, Nat.mul_left_comm 4294967296 (Bp k)]
  have := h.dif
  omega
theorem RsInv.done {xs ys zs : List Nat} {k c : Nat} (h : RsInv xs ys zs k c) (hz : Lim zs) (hx : xs.length = k) (hxl : Lim xs) (hle : val ys ≤ val xs) : val zs = val xs - val ys := by
  have hs := h.dif
  have hv := val_lt hz
  have hv2 := val_lt hxl
  rw [List.take_of_length_le (l := xs) (by omega)] at hs
  have hy := val_take_drop' ys k
  rw [hx] at hv2
  rw [h.len] at hv
  have hc := h.bor
  have h0 : Bp k * val (ys.drop k) = 0 := by
    rcases Nat.eq_zero_or_pos (val (ys.drop k)) with h0 | h0
    · rw [h0, Nat.mul_zero]
    · have := Nat.mul_le_mul_left (Bp k) h0
      omega
  rcases (show c = 0 ∨ c = 1 from by omega) with rfl | rfl <;> omega

set_option maxHeartbeats 1000000 in
theorem rsub_any (w : World) (ao bo : Option Addr) (n cap n2 cap2 : Nat) (xs ys : List Nat) (h : Sl w.heap.size w ao n cap xs) (h2 : Sl w.heap.size w bo n2 cap2 ys) (hlen : n ≤ 549755813888) (hlen2 : n2 ≤ 549755813888) (hle : val ys ≤ val xs) :
    Calls Try.prog 46 #[.slice ao n cap, .slice bo n2 cap2] w fun e w' => ∃ ro rn rc, e = .returned (.tuple #[.slice ro rn rc, .bool true]) ∧ Sl w'.heap.size w' ro rn rc (toL (val xs - val ys)) ∧ Below w.heap.size w w' := by
  have hcm : 0 ≤ cmpN (val xs) (val ys) := by unfold cmpN; split <;> (try split) <;> omega
  go_enter Try.func46, Try.ntmps46
  go_wp2_with fail
  refine (rcmp_any w ao bo n cap n2 cap2 _ xs ys h h2 (by omega) (by omega)).mono ?_
  rintro e w' ⟨rfl, rfl⟩
  generalize cmpN (val xs) (val ys) = cm at hcm
  have HL : Hid _ := hle
  clear hle
  go_wp2
  go_loopw [6, 7, 8] (fun v cv iv wr => ∃ k c zs, k ≤ n ∧ cv = .int .u64 ((c : Nat) : Int) ∧ iv = .int .i64 ((k : Nat) : Int) ∧ Below w.heap.size w wr ∧ Ow w.heap.size wr v zs ∧ RsInv xs ys zs k c) (fun _ _ iv _ => n - (intOf iv).toNat)
  case atStart => exact ⟨0, 0, [], by omega, rfl, rfl, (Below.refl _ _).alloc (Nat.le_refl _) _, Ow.start w, ⟨rfl, by omega, by simp [val]⟩⟩
  case round =>
    obtain ⟨k, c, zs, hk, rfl, rfl, hbl, how, hi⟩ := hrel
    have hc1 := hi.bor
    have hbs := hbl.size
    have t1' : Sl wr.heap.size wr ao n cap xs := (h.below hbl).mono hbs
    have t2' : Sl wr.heap.size wr bo n2 cap2 ys := (h2.below hbl).mono hbs
    have HZ : Hid (zs.length = k) := hi.len
    by_cases hlt : k < n
    · have cx := fun w (hs : Sl w.heap.size w ao n cap xs) => limb_any w ao n cap _ k xs hs
      have cy := fun w (hs : Sl w.heap.size w bo n2 cap2 ys) => limb_any w bo n2 cap2 _ k ys hs
      obtain ⟨x, hx⟩ : ∃ x, x = xs.getD k 0 := ⟨_, rfl⟩
      obtain ⟨y, hy⟩ : ∃ y, y = ys.getD k 0 := ⟨_, rfl⟩
      have hx2 : x < 4294967296 := by rw [hx]; exact h.lim.getD k
      have hy2 : y < 4294967296 := by rw [hy]; exact h2.lim.getD k
      obtain ⟨d, hd⟩ : ∃ d, d + y + c = 4294967296 + x := ⟨4294967296 + x - y - c, by omega⟩
      have HS : Hid _ := hi.step hx hy hx2 hy2 hd
      rw [← hx] at cx
      rw [← hy] at cy
      have CX : Hid _ := cx
      have CY : Hid _ := cy
      have HD : Hid _ := hd
      clear hx hy cx cy hd
      go_wp2_with fail
      refine (CX.out _ t1').mono ?_
      rintro e w' ⟨rfl, rfl⟩
      go_wp2_with fail
      refine (CY.out _ t2').mono ?_
      rintro e w' ⟨rfl, rfl⟩
      go_wp2_with (at_builtin; refine wp_app1 rfl _ _ rfl (d % 4294967296) _ how rfl rfl (by have := HD.out; omega) (by omega) (by rw [HZ.out]; omega) hbs ?_; intro v' w2 hv hb2)
      have ec : (1 : Int) - (4294967296 + (x : Int) - y - c) / 4294967296 = ((1 - d / 4294967296 : Nat) : Int) := by have := HD.out; omega
      rw [ec]
      go_roundw
      case rel => exact ⟨k + 1, _, _, by omega, rfl, by go_num, hbl.trans hb2, hv, HS.out⟩
      case measure => simp [intOf]; omega
    · obtain rfl : k = n := by omega
      have HD : Hid _ := hi.done how.lim h.len h.lim HL.out
      obtain ⟨fo, fm, fc, rfl, sf⟩ := how.sl
      go_wp2_with fail
      refine (rnorm_any wr fo fm fc _ sf (by rw [← sf.len, HZ.out]; omega)).mono ?_
      rintro e w3 ⟨a3, n3, c3, rfl, s3, b3⟩
      go_wp2
      go_ret2
      rw [HD.out] at s3
      exact ⟨a3, n3, c3, rfl, s3, hbl.trans (b3.mono hbl.size)⟩

set_option maxHeartbeats 1000000 in
theorem rsub_no (w : World) (ao bo : Option Addr) (n cap n2 cap2 N : Nat) (xs ys : List Nat) (h : Sl N w ao n cap xs) (h2 : Sl N w bo n2 cap2 ys) (hlen : n ≤ 549755813888) (hlen2 : n2 ≤ 549755813888) (hlt : val xs < val ys) :
    Calls Try.prog 46 #[.slice ao n cap, .slice bo n2 cap2] w fun e w' => e = .returned (.tuple #[.slice none 0 0, .bool false]) ∧ w = w' := by
  go_enter Try.func46, Try.ntmps46
  go_wp2_with fail
  refine (rcmp_any w ao bo n cap n2 cap2 _ xs ys h h2 (by omega) (by omega)).mono ?_
  rintro e w' ⟨rfl, rfl⟩
  rw [cmpN_lt hlt]
  go_wp2
  go_ret2
  exact ⟨rfl, rfl⟩

end Go.Proofs.Ythcclkjccaoniaa
