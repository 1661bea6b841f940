/- nat.Sub. -/
import Derived.Test.YtpbpkemmmmjjlaaW4
namespace Go.Proofs.Ytpbpkemmmmjjlaa
open Go.RowKit M

theorem sub_step {x y c : Nat} (hx : x < 4294967296) (hy : y < 4294967296) (hc : c ≤ 1) :
    ∃ v c' : Nat, ((x : Int) - y - c) % 4294967296 = (v : Int) ∧ bor (x : Int) (y : Int) (c : Int) = (c' : Int) ∧ v < 4294967296 ∧ c' ≤ 1 ∧ v + y + c = x + 4294967296 * c' := by
  unfold bor
  by_cases h : x < y + c
  · refine ⟨x + 4294967296 - y - c, 1, by omega, by rw [if_pos (by omega)]; rfl, by omega, by omega, by omega⟩
  · refine ⟨x - y - c, 0, by omega, by rw [if_neg (by omega)]; rfl, by omega, by omega, by omega⟩

set_option maxHeartbeats 1000000 in
theorem sub_any (w : World) (ao bo : Option Addr) (n cap n2 cap2 : Nat) (xs ys : List Nat) (h : Sl w.heap.size w ao n cap xs) (h2 : Sl w.heap.size w bo n2 cap2 ys) (hlen : n ≤ 1099511627775) (hlen2 : n2 ≤ 1099511627775) (hle : val ys ≤ val xs) :
    Calls Try.prog 10 #[.slice ao n cap, .slice bo n2 cap2] w fun e w' => ∃ ro rn rc, e = .returned (.tuple #[.slice ro rn rc, .bool true]) ∧ Sl w'.heap.size w' ro rn rc (toL (val xs - val ys)) ∧ Below w.heap.size w w' := by
  go_enter Try.func10, Try.ntmps10
  go_wp2_with fail
  refine (trimmed_any _ _ ao n cap xs h (by omega)).mono ?_
  rintro e w1 ⟨rfl, a1, n1, c1, rfl, s1, l1⟩
  go_wp2_with fail
  refine (trimmed_any _ _ bo n2 cap2 ys h2 (by omega)).mono ?_
  rintro e w1 ⟨rfl, a2, m1, c2, rfl, s2, l2⟩
  obtain ⟨A, hA⟩ : ∃ A, A = val xs := ⟨_, rfl⟩
  obtain ⟨B, hB⟩ : ∃ B, B = val ys := ⟨_, rfl⟩
  rw [← hA] at s1
  rw [← hB] at s2
  rw [← hA, ← hB] at hle
  have HA : Hid (A = val xs) := hA
  have HB : Hid (B = val ys) := hB
  clear h h2 hA hB
  go_wp2_with fail
  refine (cmp_any _ _ _ _ _ _ _ _ _ _ s1 s2 (by omega) (by omega)).mono ?_
  rintro e w1 ⟨rfl, hq⟩
  rw [val_toL, val_toL]
  have hcm : 0 ≤ cmpN A B := by unfold cmpN; split <;> (try split) <;> omega
  have hmn : m1 ≤ n1 := by
    rw [← s1.len, ← s2.len]
    by_cases hh : (toL A).length < (toL B).length
    · have := toL_len_lt hh; omega
    · omega
  generalize cmpN A B = cm at hcm
  have t1 : Sl w1.heap.size w1 a1 n1 c1 (toL A) := by rw [hq.size]; exact hq.sl s1
  have t2 : Sl w1.heap.size w1 a2 m1 c2 (toL B) := by rw [hq.size]; exact hq.sl s2
  clear s1 s2
  have hmk := fun u => make_run n1 (by omega) u
  go_wp2
  have hb0 : Below w1.heap.size w1 (w1.alloc (.cells (u32s (List.replicate n1 0)) 38)) := (Below.refl _ _).alloc (Nat.le_refl _) _
  have hs0 : Sg (w1.alloc (.cells (u32s (List.replicate n1 0)) 38)) w1.heap.size 0 n1 [] (List.replicate n1 0) [] := Sg.whole (Own.alloc _ _) (Lim.rep _) (by simp)
  have hz0 : (w1.alloc (.cells (u32s (List.replicate n1 0)) 38)).heap.size = w1.heap.size + 1 := by simp
  have u1 := t1.below hb0
  have u2 := t2.below hb0
  have hbw := (hq.below w.heap.size).trans (hb0.mono (by rw [hq.size]; exact Nat.le_refl _))
  obtain ⟨g, hg⟩ : ∃ g, g = w1.heap.size := ⟨_, rfl⟩
  rw [← hg] at hs0 hz0 u1 u2 ⊢
  generalize w1.alloc (.cells (u32s (List.replicate n1 0)) 38) = w2 at *
  have hgw : w.heap.size ≤ g := by rw [hg, hq.size]; exact Nat.le_refl _
  clear hg t1 t2 hb0 hmk hq
  go_loopw [7, 24] (fun cv iv wr => ∃ k c r, k ≤ m1 ∧ cv = .int .u32 ((c : Nat) : Int) ∧ iv = .int .i64 ((k : Nat) : Int) ∧ Fr g w2 wr ∧ Sg wr g 0 n1 [] r [] ∧ SubInv n1 r (toL A) (toL B) k c) (fun _ iv _ => m1 - (intOf iv).toNat)
  case atStart => exact ⟨0, 0, _, Nat.zero_le _, rfl, rfl, Fr.refl _ _, hs0, SubInv.start _ _ _⟩
  case round =>
    obtain ⟨k, c, r, hk, rfl, rfl, hf, hs, hi⟩ := hrel
    have hc1 := hi.bor
    by_cases hlt : k < m1
    · obtain ⟨b, p, x, rfl, hx0, hx1, hx2, HX⟩ := (u1.fr hf (Nat.le_refl _)).cell k (by omega)
      obtain ⟨b', p', y, rfl, hy0, hy1, hy2, HY⟩ := (u2.fr hf (Nat.le_refl _)).cell k hlt
      obtain ⟨z, hz1, hz2, hz3, HZ⟩ := hs.cell0 k (by omega)
      go_wp2_with (go_at_call 31; refine (sub32_any _ _ _ _ (by omega) (by omega) (by omega) (by omega) (by omega) (by omega)).mono ?_; rintro e w' ⟨rfl, rfl⟩)
      obtain ⟨v, c', ev, ec, hv, hc', he⟩ := sub_step hx2 hy2 hc1
      rw [ev, ec]
      go_roundw
      case rel => exact ⟨k + 1, c', r.set k v, by omega, rfl, by go_num, hf.set _ _, hs.set0 (by omega) hv, hi.step (by omega) hv hc' (by rw [← HX.out, ← HY.out]; exact he)⟩
      case measure => simp [intOf]; omega
    · obtain rfl : k = m1 := by omega
      have HY : Hid ((toL B).length = k) := u2.len
      have HX : Hid ((toL A).length = n1) := u1.len
      clear u2
      go_wp2
      go_loopw [7, 10] (fun cv iv wr => ∃ j c r, k ≤ j ∧ j ≤ n1 ∧ cv = .int .u32 ((c : Nat) : Int) ∧ iv = .int .i64 ((j : Nat) : Int) ∧ Fr g w2 wr ∧ Sg wr g 0 n1 [] r [] ∧ SubInv n1 r (toL A) (toL B) j c) (fun _ iv _ => n1 - (intOf iv).toNat)
      case atStart => exact ⟨k, c, r, Nat.le_refl _, hmn, rfl, rfl, hf, hs, hi⟩
      case round =>
        clear hi hs hf hc1
        obtain ⟨j, c, r, hkj, hj, rfl, rfl, hf, hs, hi⟩ := hrel
        have hc1 := hi.bor
        by_cases hlt2 : j < n1
        · obtain ⟨b, p, x, rfl, hx0, hx1, hx2, HX2⟩ := (u1.fr hf (Nat.le_refl _)).cell j hlt2
          obtain ⟨z, hz1, hz2, hz3, HZ⟩ := hs.cell0 j (by omega)
          have HZ : Hid ((toL B).getD j 0 = 0) := getD_beyond (by rw [HY.out]; exact hkj)
          go_wp2_with (go_at_call 31; refine (sub32_any _ _ _ _ (by omega) (by omega) (by omega) (by omega) (by omega) (by omega)).mono ?_; rintro e w' ⟨rfl, rfl⟩)
          obtain ⟨v, c', ev, ec, hv, hc', he⟩ := sub_step (y := 0) hx2 (by omega) hc1
          simp only [Int.natCast_zero, Int.sub_zero] at ev ec
          rw [ev, ec]
          go_roundw
          case rel => exact ⟨j + 1, c', r.set j v, by omega, by omega, rfl, by go_num, hf.set _ _, hs.set0 (by omega) hv, hi.step (by omega) hv hc' (by rw [← HX2.out, HZ.out]; exact he)⟩
          case measure => simp [intOf]; omega
        · obtain rfl : j = n1 := by omega
          have HD : Hid (val r = A - B) := by
            have := hi.done HX.out (by rw [HY.out]; exact hkj) (by rw [val_toL, val_toL]; exact hle)
            rwa [val_toL, val_toL] at this
          go_wp2_with fail
          refine (trimmed_any (g + 1) _ _ j j r (hs.read (by omega) j (Nat.le_refl _)) (by omega)).mono ?_
          rintro e w3 ⟨rfl, a3, n3, c3, rfl, s3, l3⟩
          go_wp2
          go_ret2
          rw [HD.out] at s3
          rw [HA.out, HB.out] at s3
          refine ⟨a3, n3, c3, rfl, by rw [hf.size, hz0]; exact s3, hbw.trans (hf.below hgw)⟩

set_option maxHeartbeats 1000000 in
theorem sub_no (w : World) (ao bo : Option Addr) (n cap n2 cap2 N : Nat) (xs ys : List Nat) (h : Sl N w ao n cap xs) (h2 : Sl N w bo n2 cap2 ys) (hlen : n ≤ 1099511627775) (hlen2 : n2 ≤ 1099511627775) (hlt : val xs < val ys) :
    Calls Try.prog 10 #[.slice ao n cap, .slice bo n2 cap2] w fun e w' => e = .returned (.tuple #[.slice none 0 0, .bool false]) ∧ Qt w w' := by
  go_enter Try.func10, Try.ntmps10
  go_wp2_with fail
  refine (trimmed_any _ _ ao n cap xs h (by omega)).mono ?_
  rintro e w1 ⟨rfl, a1, n1, c1, rfl, s1, l1⟩
  go_wp2_with fail
  refine (trimmed_any _ _ bo n2 cap2 ys h2 (by omega)).mono ?_
  rintro e w1 ⟨rfl, a2, m1, c2, rfl, s2, l2⟩
  go_wp2_with fail
  refine (cmp_any _ _ _ _ _ _ _ _ _ _ s1 s2 (by omega) (by omega)).mono ?_
  rintro e w1 ⟨rfl, hq⟩
  rw [val_toL, val_toL, cmpN_lt hlt]
  go_wp2
  go_ret2
  exact ⟨rfl, hq⟩

end Go.Proofs.Ytpbpkemmmmjjlaa
