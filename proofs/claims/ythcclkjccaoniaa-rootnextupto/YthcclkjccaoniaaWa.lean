/- nat.subProduct, divStep. -/
import Derived.Test.YthcclkjccaoniaaW9
namespace Go.Proofs.Ythcclkjccaoniaa
open Go.RowKit M

set_option maxHeartbeats 1000000 in
theorem subProduct_any (w : World) (g o m cap : Nat) (pre s post : List Nat) (bo : Option Addr) (bcap N q : Nat) (ys : List Nat)
    (h : Sg w g o (m + 1) pre s post) (hb : Sl N w bo m bcap ys) (hN : N ≤ g) (hn : m ≤ 1099511627776) (hq : q < 4294967296) :
    Calls Try.prog 61 #[.slice (some ⟨g, o, none⟩) (m + 1) cap, .slice bo m bcap, .int .u32 (q : Int)] w fun e w' => ∃ (b : Nat) (s' : List Nat), e = .returned (.bool ((b : Int) != 0)) ∧ b ≤ 1 ∧ Fr g w w' ∧ Sg w' g o (m + 1) pre s' post ∧ val s' + q * val ys = val s + Bp (m + 1) * b := by
  go_enter Try.func61, Try.ntmps61
  go_wp2
  go_loopw [7, 8, 13] (fun cv bv iv wr => ∃ k c b s', k ≤ m ∧ cv = .int .u64 ((c : Nat) : Int) ∧ bv = .int .u32 ((b : Nat) : Int) ∧ iv = .int .i64 ((k : Nat) : Int) ∧ Fr g w wr ∧ Sg wr g o (m + 1) pre s' post ∧ SpInv s s' ys q k c b) (fun _ _ iv _ => m - (intOf iv).toNat)
  case atStart => exact ⟨0, 0, 0, s, Nat.zero_le _, rfl, rfl, rfl, Fr.refl _ _, h, SpInv.start _ h.lim⟩
  case round =>
    obtain ⟨k, c, b, s', hk, rfl, rfl, rfl, hf, hs, hi⟩ := hrel
    have hc1 := hi.car
    have hb1 := hi.bor
    by_cases hlt : k < m
    · obtain ⟨x, hx1, hx2, hx3, HX⟩ := hs.cell k (by omega)
      obtain ⟨b', p, y, rfl, hy0, hy1, hy2, HY⟩ := (hb.fr hf hN).cell k hlt
      have hp0 : (0 : Int) ≤ (q : Int) * (y : Int) := by rw [← Int.natCast_mul]; omega
      have hp1 : (q : Int) * (y : Int) ≤ 18446744065119617025 := by have := mul_bound hq hy2; rw [← Int.natCast_mul]; omega
      go_wp2_with (go_at_call 62; refine (sub32_any _ _ _ _ (by omega) (by omega) (by omega) (by omega) (by omega) (by omega)).mono ?_; rintro e w' ⟨rfl, rfl⟩)
      have em : ((c : Int) + (q : Int) * y) % 4294967296 = (((c + q * y) % 4294967296 : Nat) : Int) := by rw [← Int.natCast_mul]; omega
      have ec : ((c : Int) + (q : Int) * y) / 4294967296 = (((c + q * y) / 4294967296 : Nat) : Int) := by rw [← Int.natCast_mul]; omega
      obtain ⟨v, b2, ev, eb, hv, hb2, he⟩ := sub_step (x := x) (y := (c + q * y) % 4294967296) hx3 (by omega) hb1
      rw [em, ec, ev, eb]
      go_roundw
      case rel => exact ⟨k + 1, (c + q * y) / 4294967296, b2, s'.set k v, by omega, rfl, rfl, by go_num, hf.set _ _, hs.set (by omega) hv,
        hi.step (by rw [h.len]; omega) hq (hb.lim.getD k) hv hb2 (by rw [← HY.out]) (by rw [← HY.out, ← HX.out]; exact he)⟩
      case measure => simp [intOf]; omega
    · obtain rfl : k = m := by omega
      obtain ⟨x, hx1, hx2, hx3, HX⟩ := hs.cell k (by omega)
      go_wp2_with (go_at_call 62; refine (sub32_any _ _ _ _ (by omega) (by omega) (by omega) (by omega) (by omega) (by omega)).mono ?_; rintro e w' ⟨rfl, rfl⟩)
      obtain ⟨v, b2, ev, eb, hv, hb2, he⟩ := sub_step (x := x) (y := c) hx3 (by omega) hb1
      rw [ev, eb]
      go_ret
      exact ⟨b2, s'.set k v, rfl, hb2, hf.set _ _, hs.set (by omega) hv, hi.last h.len hb.len (by rw [← HX.out]; exact he)⟩

set_option maxHeartbeats 1000000 in
theorem divStep_any (w : World) (g o n cap : Nat) (pre s post : List Nat) (bo : Option Addr) (bcap N : Nat) (ds : List Nat)
    (h : Sg w g o (n + 3) pre s post) (hb : Sl N w bo (n + 2) bcap ds) (hN : N ≤ g) (hn : n ≤ 1099511627770) (hcap : n + 3 ≤ cap) (htop : 2147483648 ≤ ds.getD (n + 1) 0) (huv : val s < 4294967296 * val ds) :
    Calls Try.prog 53 #[.slice (some ⟨g, o, none⟩) (n + 3) cap, .slice bo (n + 2) bcap] w fun e w' => ∃ (q : Nat) (s' : List Nat), e = .returned (.int .u32 (q : Int)) ∧ q < 4294967296 ∧ q = val s / val ds ∧ Fr g w w' ∧ Sg w' g o (n + 3) pre s' post ∧ val s' = val s % val ds := by
  have hv0 : 0 < val ds := by omega
  go_enter Try.func53, Try.ntmps53
  go_wp2_with fail
  refine (guess_any w _ bo n cap bcap (g + 1) s ds (h.read (by omega) cap hcap) (hb.mono (by omega)) (by omega) htop huv).mono ?_
  rintro e w1 ⟨q, rfl, hq, hq1, hq2, hqt⟩
  have H1 : Hid (val s / val ds ≤ q) := hq1
  have H2 : Hid (q ≤ val s / val ds + 1) := hq2
  clear hq1 hq2
  have h1 := h.qt hqt
  have hb1 := hqt.sl hb
  go_wp2_with fail
  refine (subProduct_any w1 g o (n + 2) cap pre s post bo bcap N q ds h1 hb1 hN (by omega) hq).mono ?_
  rintro e w2 ⟨b, s2, rfl, hb01, hf2, hs2, he2⟩
  have E2 : Hid _ := he2
  clear he2
  have ht2 : val s2 < Bp (n + 3) := by have := val_lt hs2.lim; rwa [hs2.len] at this
  have T2 : Hid _ := ht2
  clear ht2
  have hfr : Fr g w w2 := (Fr.refl g w).qt hqt |>.trans hf2
  by_cases hb0 : b = 0
  · have hbb : ((b : Int) != 0) = false := by simp [hb0]
    obtain ⟨r1, r2⟩ := step_yes H1.out H2.out hv0 E2.out hb0
    have R1 : Hid _ := r1
    have R2 : Hid _ := r2
    clear r1 r2
    go_wp2
    go_ret
    exact ⟨q, s2, rfl, hq, R1.out, hfr, hs2, R2.out⟩
  · have hbb : ((b : Int) != 0) = true := by rw [bne_iff_ne]; omega
    go_wp2_with fail
    refine (addTo_any w2 g o (n + 3) cap pre s2 post bo (n + 2) bcap N ds hs2 (hb1.fr hf2 hN) hN (by omega) (by omega)).mono ?_
    rintro e w3 ⟨rfl, hf3, s3, hs3, hl3, hl4, c, hc, he3⟩
    have ht3 : val s3 < Bp (n + 3) := by have := val_lt hs3.lim; rwa [hs3.len] at this
    rw [hs2.len] at he3
    obtain ⟨r0, r1, r2⟩ := step_no H1.out H2.out hv0 E2.out T2.out (by omega) ht3 hc he3
    have R1 : Hid _ := r1
    have R2 : Hid _ := r2
    clear r1 r2 ht3 he3
    go_wp2
    go_ret
    exact ⟨q - 1, s3, ret1 (by omega), by omega, R1.out, hfr.trans hf3, hs3, R2.out⟩

end Go.Proofs.Ythcclkjccaoniaa
