/- nat.divByLimb, shiftedDown. -/
import Derived.Test.YthcclkjccaoniaaW7
namespace Go.Proofs.Ythcclkjccaoniaa
open Go.RowKit M

theorem or_join {r x : Nat} (hr : r < 4294967296) (hx : x < 4294967296) : Go.bits .or .u64 ((r : Int) * 4294967296) (x : Int) = ((r * 4294967296 + x : Nat) : Int) := by
  rw [show (r : Int) * 4294967296 = ((r * 4294967296 : Nat) : Int) from by omega, u64_or_nat _ _ (by omega) (by omega), nat_join 32 (r * 4294967296) x (by omega) (by omega)]

/-- A new row of zeros, one block behind w. -/
theorem fresh (w : World) (n : Nat) : ∃ w2, w2 = w.alloc (.cells (u32s (List.replicate n 0)) 32) ∧ Below w.heap.size w w2 ∧ Own w2 w.heap.size (List.replicate n 0) ∧ w2.heap.size = w.heap.size + 1 :=
  ⟨_, rfl, (Below.refl _ _).alloc (Nat.le_refl _) _, Own.alloc _ _, by simp⟩

set_option maxHeartbeats 1000000 in
theorem divByLimb_any (w : World) (ao : Option Addr) (n cap b : Nat) (xs : List Nat) (h : Sl w.heap.size w ao n cap xs) (hlen : n ≤ 1099511627775) (hb0 : 0 < b) (hb1 : b < 4294967296) :
    Calls Try.prog 35 #[.slice ao n cap, .int .u32 (b : Int)] w fun e w' => ∃ ro rn rc, e = .returned (.tuple #[.slice ro rn rc, .int .u32 ((val xs % b : Nat) : Int)]) ∧ Sl w'.heap.size w' ro rn rc (toL (val xs / b)) ∧ Below w.heap.size w w' := by
  have hmk := fun u => make_run n (by omega) u
  obtain ⟨w2, hw2, hbl, how, hz0⟩ := fresh w n
  go_enter Try.func35, Try.ntmps35
  go_wp2
  rw [← hw2]
  have u1 := h.below hbl
  obtain ⟨g, hg⟩ : ∃ g, g = w.heap.size := ⟨_, rfl⟩
  rw [← hg] at how hz0 u1 hbl ⊢
  have HG : Hid (g = w.heap.size) := hg
  clear hmk hg hw2
  go_loopw [7, 8] (fun rv iv wr => ∃ k r q, k ≤ n ∧ rv = .int .u64 ((r : Nat) : Int) ∧ iv = .int .i64 (((k : Nat) : Int) - 1) ∧ Fr g w2 wr ∧ Own wr g q ∧ DivInv n q xs b k r) (fun _ iv _ => (intOf iv + 1).toNat)
  case atStart => exact ⟨n, 0, _, Nat.le_refl _, rfl, rfl, Fr.refl _ _, how, DivInv.start h.len hb0⟩
  case round =>
    obtain ⟨k, r, q, hk, rfl, rfl, hf, hs, hi⟩ := hrel
    have hr := hi.rest
    by_cases h0 : k = 0
    · subst h0
      obtain ⟨e1, e2⟩ := hi.done
      have HD : Hid (val q = val xs / b ∧ r = val xs % b) := ⟨e1, e2⟩
      clear e1 e2
      go_wp2_with fail
      refine (trimmed_any (g + 1) _ _ n n q (Sl.own hs hi.lim (by omega) n n hi.len (Nat.le_refl _)) (by omega)).mono ?_
      rintro e w3 ⟨rfl, a3, n3, c3, rfl, s3, l3⟩
      go_wp2
      go_ret2
      rw [HD.out.1] at s3
      rw [← HD.out.2]
      have hg := HG.out
      refine ⟨a3, n3, c3, rfl, by rw [hf.size, hz0]; exact s3, ?_⟩
      rw [← hg]
      exact hbl.trans (hf.below (Nat.le_refl _))
    · obtain ⟨j, rfl⟩ : ∃ j, k = j + 1 := ⟨k - 1, by omega⟩
      rw [show ((j + 1 : Nat) : Int) - 1 = (j : Int) from by omega]
      obtain ⟨b', o, x, rfl, hx0, hx1, hx2, HX⟩ := (u1.fr hf (Nat.le_refl _)).cell j (by omega)
      have hl := hi.len
      have hcl := hs.cell (i := j) (by omega)
      have hfr := hs.free j
      generalize q.getD j 0 = old at hcl
      obtain ⟨st1, st2⟩ := hi.step h.len (by omega) hb1 HX.out hx2
      have hj := or_join (r := r) (x := x) (by omega) hx2
      have ST : Hid _ := st2
      have hq0 : (0 : Int) ≤ ((r * 4294967296 + x : Nat) : Int) / (b : Int) := Int.ediv_nonneg (by omega) (by omega)
      have hq1 : ((r * 4294967296 + x : Nat) : Int) / (b : Int) < 4294967296 := by rw [← Int.natCast_ediv]; omega
      have ev : ((r : Int) * 4294967296 + (x : Int)) / (b : Int) % 4294967296 = (((r * 4294967296 + x) / b : Nat) : Int) := by
        rw [show (r : Int) * 4294967296 + (x : Int) = ((r * 4294967296 + x : Nat) : Int) from by omega, ← Int.natCast_ediv]; omega
      have er : ((r : Int) * 4294967296 + (x : Int)) % (b : Int) = (((r * 4294967296 + x) % b : Nat) : Int) := by
        rw [show (r : Int) * 4294967296 + (x : Int) = ((r * 4294967296 + x : Nat) : Int) from by omega, ← Int.natCast_emod]
      have EV : Hid _ := ev
      have ER : Hid _ := er
      clear st1 st2 hl ev er
      go_wp2
      rw [EV.out, ER.out]
      go_roundw
      case rel => exact ⟨j, _, _, by omega, rfl, rfl, hf.set _ _, hs.set j _, ST.out⟩
      case measure => simp [intOf]

theorem or_join_wrap {r x : Nat} (hx : x < 4294967296) : Go.bits .or .u64 (IntKind.u64.wrap ((r : Int) * 4294967296)) (x : Int) = ((r % 4294967296 * 4294967296 + x : Nat) : Int) := by
  rw [IntKind.wrap_u64, show (r : Int) * 4294967296 % 18446744073709551616 = ((r % 4294967296 : Nat) : Int) * 4294967296 from by omega]
  exact or_join (by omega) hx

set_option maxHeartbeats 1000000 in
theorem shiftedDown_any (w : World) (ao : Option Addr) (n cap d : Nat) (xs : List Nat) (h : Sl w.heap.size w ao n cap xs) (hlen : n ≤ 1099511627775) (hd : d < 32) :
    Calls Try.prog 54 #[.slice ao n cap, .int .i64 (d : Int)] w (Gives w (toL (val xs / 2 ^ d))) := by
  have hmk := fun u => make_run n (by omega) u
  obtain ⟨w2, hw2, hbl, how, hz0⟩ := fresh w n
  go_enter Try.func54, Try.ntmps54
  go_wp2
  rw [← hw2]
  have u1 := h.below hbl
  obtain ⟨g, hg⟩ : ∃ g, g = w.heap.size := ⟨_, rfl⟩
  rw [← hg] at how hz0 u1 hbl ⊢
  have HG : Hid (g = w.heap.size) := hg
  clear hmk hg hw2
  go_loopw [6, 7] (fun tv iv wr => ∃ k t q, k ≤ n ∧ tv = .int .u64 ((t : Nat) : Int) ∧ t < 18446744073709551616 ∧ t % 4294967296 = xs.getD k 0 ∧ iv = .int .i64 (((k : Nat) : Int) - 1) ∧ Fr g w2 wr ∧ Own wr g q ∧ DnInv n q xs (2 ^ d) k) (fun _ iv _ => (intOf iv + 1).toNat)
  case atStart => exact ⟨n, 0, _, Nat.le_refl _, rfl, by omega, by rw [getD_beyond (by rw [h.len]; exact Nat.le_refl _)], rfl, Fr.refl _ _, how, DnInv.start h.len⟩
  case round =>
    obtain ⟨k, t, q, hk, rfl, ht, htx, rfl, hf, hs, hi⟩ := hrel
    have HT : Hid (t % 4294967296 = xs.getD k 0) := htx
    clear htx
    by_cases h0 : k = 0
    · subst h0
      have HD : Hid (val q = val xs / 2 ^ d) := hi.done
      go_wp2_with fail
      refine (trimmed_any (g + 1) _ _ n n q (Sl.own hs hi.lim (by omega) n n hi.len (Nat.le_refl _)) (by omega)).mono ?_
      rintro e w3 ⟨rfl, a3, n3, c3, rfl, s3, l3⟩
      go_wp2
      go_ret
      rw [HD.out] at s3
      have hg := HG.out
      refine ⟨a3, n3, c3, rfl, by rw [hf.size, hz0]; exact s3, ?_⟩
      rw [← hg]
      exact hbl.trans (hf.below (Nat.le_refl _))
    · obtain ⟨j, rfl⟩ : ∃ j, k = j + 1 := ⟨k - 1, by omega⟩
      rw [show ((j + 1 : Nat) : Int) - 1 = (j : Int) from by omega]
      obtain ⟨b', o, x, rfl, hx0, hx1, hx2, HX⟩ := (u1.fr hf (Nat.le_refl _)).cell j (by omega)
      have hl := hi.len
      have hcl := hs.cell (i := j) (by omega)
      have hfr := hs.free j
      generalize q.getD j 0 = old at hcl
      have st := hi.step (e := 2 ^ (32 - d)) (t := t % 4294967296) h.len h.lim (by omega) (by rw [← Nat.pow_add, show d + (32 - d) = 32 from by omega]) HX.out HT.out
      have hj := or_join_wrap (r := t) (x := x) hx2
      have ST : Hid _ := st
      have et : (t : Int) % 4294967296 * 4294967296 + (x : Int) = ((t % 4294967296 * 4294967296 + x : Nat) : Int) := by omega
      have ev : ((t % 4294967296 * 4294967296 + x : Nat) : Int) / 2 ^ d % 4294967296 = (((t % 4294967296 * 4294967296 + x) / 2 ^ d % 4294967296 : Nat) : Int) := by
        rw [show (2 : Int) ^ d = ((2 ^ d : Nat) : Int) from by rw [Int.natCast_pow]; rfl, ← Int.natCast_ediv]; omega
      have ET : Hid _ := et
      have EV : Hid _ := ev
      clear st hl et ev
      go_wp2
      rw [ET.out, EV.out]
      go_roundw
      case rel => exact ⟨j, _, _, by omega, rfl, by omega, by rw [← HX.out]; omega, rfl, hf.set _ _, hs.set j _, ST.out⟩
      case measure => simp [intOf]

end Go.Proofs.Ythcclkjccaoniaa
