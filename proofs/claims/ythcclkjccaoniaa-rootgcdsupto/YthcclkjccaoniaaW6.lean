/- nat.addProduct, Mul. -/
import Derived.Test.YthcclkjccaoniaaW5
namespace Go.Proofs.Ythcclkjccaoniaa
open Go.RowKit M

set_option maxHeartbeats 1000000 in
theorem addProduct_any (w : World) (g o n cap : Nat) (pre s post : List Nat) (bo : Option Addr) (bcap N q : Nat) (ys : List Nat)
    (h : Sg w g o n pre s post) (hb : Sl N w bo n bcap ys) (hN : N ≤ g) (hn : n ≤ 1099511627776) (hq : q < 4294967296) :
    Calls Try.prog 37 #[.slice (some ⟨g, o, none⟩) n cap, .slice bo n bcap, .int .u32 (q : Int)] w fun e w' => ∃ c s', e = .returned (.int .u32 ((c : Nat) : Int)) ∧ Fr g w w' ∧ Sg w' g o n pre s' post ∧ c < 4294967296 ∧ val s' + Bp n * c = val s + q * val ys := by
  go_enter Try.func37, Try.ntmps37
  go_wp2
  go_loopw [7, 12] (fun cv iv wr => ∃ k c s', k ≤ n ∧ cv = .int .u64 ((c : Nat) : Int) ∧ iv = .int .i64 ((k : Nat) : Int) ∧ Fr g w wr ∧ Sg wr g o n pre s' post ∧ PrInv s s' ys q k c) (fun _ iv _ => n - (intOf iv).toNat)
  case atStart => exact ⟨0, 0, s, Nat.zero_le _, rfl, rfl, Fr.refl _ _, h, PrInv.start _ h.lim⟩
  case round =>
    obtain ⟨k, c, s', hk, rfl, rfl, hf, hs, hi⟩ := hrel
    have hc1 := hi.car
    by_cases hlt : k < n
    · obtain ⟨x, hx1, hx2, hx3, HX⟩ := hs.cell k (by omega)
      obtain ⟨b, p, y, rfl, hy0, hy1, hy2, HY⟩ := (hb.fr hf hN).cell k hlt
      have hp0 : (0 : Int) ≤ (q : Int) * (y : Int) := by rw [← Int.natCast_mul]; omega
      have hp1 : (q : Int) * (y : Int) ≤ 18446744065119617025 := by have := mul_bound hq hy2; rw [← Int.natCast_mul]; omega
      go_wp2
      have ev : ((c : Int) + ((q : Int) * y + x)) % 4294967296 = (((c + (q * y + x)) % 4294967296 : Nat) : Int) := by rw [← Int.natCast_mul]; omega
      have ec : ((c : Int) + ((q : Int) * y + x)) / 4294967296 = (((c + (q * y + x)) / 4294967296 : Nat) : Int) := by rw [← Int.natCast_mul]; omega
      rw [ev, ec]
      go_roundw
      case rel => exact ⟨k + 1, (c + (q * y + x)) / 4294967296, s'.set k ((c + (q * y + x)) % 4294967296), by omega, rfl, by go_num, hf.set _ _, hs.set (by omega) (by omega),
        hi.step (by rw [h.len]; omega) hq (hb.lim.getD k) (by rw [← HX.out, ← HY.out]) (by rw [← HX.out, ← HY.out])⟩
      case measure => simp [intOf]; omega
    · obtain rfl : k = n := by omega
      have HD : Hid (val s' + Bp k * c = val s + q * val ys) := by
        have hl := h.len
        rw [← hl] at hi
        have := hi.done (by rw [hb.len, hl])
        rwa [hl] at this
      go_wp2
      go_ret
      exact ⟨c, s', rfl, hf, hs, hc1, HD.out⟩

set_option maxHeartbeats 1000000 in
theorem mul_any (w : World) (ao bo : Option Addr) (n cap n2 cap2 : Nat) (xs ys : List Nat) (h : Sl w.heap.size w ao n cap xs) (h2 : Sl w.heap.size w bo n2 cap2 ys) (hlen : n ≤ 549755813888) (hlen2 : n2 ≤ 549755813888) :
    Calls Try.prog 18 #[.slice ao n cap, .slice bo n2 cap2] w (Gives w (toL (val xs * val ys))) := by
  go_enter Try.func18, Try.ntmps18
  go_wp2_with fail
  refine (trimmed_any _ _ ao n cap xs h (by omega)).mono ?_
  rintro e w1 ⟨rfl, a1, n1, c1, rfl, s1, l1⟩
  go_wp2_with fail
  refine (trimmed_any _ _ bo n2 cap2 ys h2 (by omega)).mono ?_
  rintro e w1 ⟨rfl, a2, m1, c2, rfl, s2, l2⟩
  clear h h2
  by_cases h0 : n1 = 0
  · have HV : Hid (val xs * val ys = 0) := by
      have := s1.len
      rw [h0] at this
      show val xs * val ys = 0
      rw [toL_length_zero.1 this, Nat.zero_mul]
    have hz : ((n1 : Int) == 0) = true := by simp [h0]
    go_wp2
    go_ret
    rw [HV.out, toL_zero]
    exact ⟨none, 0, 0, rfl, Sl.nil _ _, Below.refl _ _⟩
  · have hz : ((n1 : Int) == 0) = false := by simp [h0]
    by_cases h1 : m1 = 0
    · have HV : Hid (val xs * val ys = 0) := by
        have := s2.len
        rw [h1] at this
        show val xs * val ys = 0
        rw [toL_length_zero.1 this, Nat.mul_zero]
      have hz2 : ((m1 : Int) == 0) = true := by simp [h1]
      go_wp2
      go_ret
      rw [HV.out, toL_zero]
      exact ⟨none, 0, 0, rfl, Sl.nil _ _, Below.refl _ _⟩
    · have hz2 : ((m1 : Int) == 0) = false := by simp [h1]
      have hmk := fun u => make_run (n1 + m1) (by omega) u
      rw [Int.natCast_add] at hmk
      go_wp2
      have hb0 : Below w.heap.size w (w.alloc (.cells (u32s (List.replicate (n1 + m1) 0)) 32)) := (Below.refl _ _).alloc (Nat.le_refl _) _
      have hs0 : Own (w.alloc (.cells (u32s (List.replicate (n1 + m1) 0)) 32)) w.heap.size (List.replicate (n1 + m1) 0) := Own.alloc _ _
      have hz0 : (w.alloc (.cells (u32s (List.replicate (n1 + m1) 0)) 32)).heap.size = w.heap.size + 1 := by simp
      have u1 := s1.below hb0
      have u2 := s2.below hb0
      generalize w.alloc (.cells (u32s (List.replicate (n1 + m1) 0)) 32) = w2 at *
      obtain ⟨g, hg⟩ : ∃ g, g = w.heap.size := ⟨_, rfl⟩
      rw [← hg] at hs0 hz0 u1 u2 hb0 ⊢
      have HG : Hid (g = w.heap.size) := hg
      clear s1 s2 hmk hg
      go_loopw [28] (fun iv wr => ∃ k P, k ≤ n1 ∧ iv = .int .i64 ((k : Nat) : Int) ∧ Fr g w2 wr ∧ Own wr g P ∧ MulInv P (toL (val xs)) (toL (val ys)) k) (fun iv _ => n1 - (intOf iv).toNat)
      case atStart => exact ⟨0, _, Nat.zero_le _, rfl, Fr.refl _ _, hs0, by have := MulInv.start (toL (val xs)) (toL (val ys)); rwa [u1.len, u2.len] at this⟩
      case round =>
        obtain ⟨k, P, hk, rfl, hf, hs, hi⟩ := hrel
        by_cases hlt : k < n1
        · obtain ⟨b, p, x, rfl, hx0, hx1, hx2, HX⟩ := (u1.fr hf (Nat.le_refl _)).cell k (by omega)
          have hP := hi.len
          rw [u1.len, u2.len] at hP
          go_wp2_with fail
          refine (addProduct_any wr g k m1 _ _ _ _ a2 c2 g x _ (Sg.cut hs hi.lim k m1 (by omega)) (u2.fr hf (Nat.le_refl _)) (Nat.le_refl _) (by omega) hx2).mono ?_
          rintro e w3 ⟨c, s', rfl, hf3, hs3, hc, he⟩
          have hl3 : (P.take k ++ (s' ++ P.drop (k + m1))).length = n1 + m1 := by
            rw [List.length_append, List.length_append, List.length_take, List.length_drop, hs3.len]; omega
          have hcl := hs3.own.cell (i := k + m1) (by omega)
          have hfr := hs3.own.free (k + m1)
          have HS : Hid _ := hi.step (by rw [u1.len]; exact hlt) (by rw [hs3.len, u2.len]) hs3.lim hc (by rw [u2.len, ← HX.out]; exact he)
          generalize (P.take k ++ (s' ++ P.drop (k + m1))).getD (k + m1) 0 = old at hcl
          go_wp2
          go_roundw
          case rel =>
            refine ⟨k + 1, _, by omega, by go_num, (hf.trans hf3).set _ _, hs3.own.set (k + m1) c, ?_⟩
            have := HS.out
            rwa [u2.len] at this
          case measure => simp [intOf]; omega
        · obtain rfl : k = n1 := by omega
          have hP := hi.len
          rw [u1.len, u2.len] at hP
          have HD : Hid (val P = val xs * val ys) := by
            rw [← u1.len] at hi
            have := hi.done
            rwa [val_toL, val_toL] at this
          go_wp2_with fail
          refine (trimmed_any (g + 1) _ _ _ _ P (Sl.own hs hi.lim (by omega) (k + m1) (k + m1) hP (Nat.le_refl _)) (by omega)).mono ?_
          rintro e w3 ⟨rfl, a3, n3, c3, rfl, s3, l3⟩
          go_wp2
          go_ret
          rw [HD.out] at s3
          have hg := HG.out
          refine ⟨a3, n3, c3, rfl, by rw [hf.size, hz0]; exact s3, ?_⟩
          rw [← hg]
          exact hb0.trans (hf.below (Nat.le_refl _))

end Go.Proofs.Ythcclkjccaoniaa
