/- penumbraref01.Same (where both are the same), nat.Cmp. -/
import Derived.Test.YthcclkjccaoniaaW1
import Derived.Test.YthcclkjccaoniaaBits
namespace Go.Proofs.Ythcclkjccaoniaa
open Go.RowKit M

set_option maxHeartbeats 400000 in
theorem same_any (w : World) (ao bo : Option Addr) (n cap n2 cap2 N : Nat) (xs : List Nat) (h : Sl N w ao n cap xs) (h2 : Sl N w bo n2 cap2 xs) (hlen : n ≤ 1099511627776) :
    Calls Try.prog 10 #[.slice ao n cap, .slice bo n2 cap2] w fun e w' => e = .returned (.bool true) ∧ Qt w w' := by
  obtain rfl : n = n2 := by rw [← h.len, ← h2.len]
  go_enter Try.func10, Try.ntmps10
  go_wp2
  go_loopw [5] (fun i wr => ∃ k : Nat, k ≤ n ∧ i = .int .i64 k ∧ Qt w wr) (fun i _ => n - (intOf i).toNat)
  case atStart => exact ⟨0, Nat.zero_le _, rfl, Qt.refl _⟩
  case round =>
    obtain ⟨k, hk, rfl, hq⟩ := hrel
    by_cases hlt : k < n
    · obtain ⟨b, o, x, rfl, hb, hcell, hx, HX⟩ := (hq.sl h).cell k hlt
      obtain ⟨b', o', x', rfl, hb', hcell', hx', HX'⟩ := (hq.sl h2).cell k hlt
      obtain rfl : x = x' := by rw [HX.out, HX'.out]
      go_wp2
      go_quiet (fail)
      go_wp2
      go_roundw
      case rel => exact ⟨k + 1, by omega, by go_num, hq.drewN _⟩
      case measure => simp [intOf]; omega
    · go_wp2
      go_ret
      exact ⟨rfl, hq⟩

set_option maxHeartbeats 1000000 in
theorem cmp_any (w : World) (ao bo : Option Addr) (n cap n2 cap2 N : Nat) (xs ys : List Nat) (h : Sl N w ao n cap xs) (h2 : Sl N w bo n2 cap2 ys) (hlen : n ≤ 1099511627776) (hlen2 : n2 ≤ 1099511627776) :
    Calls Try.prog 20 #[.slice ao n cap, .slice bo n2 cap2] w fun e w' => e = .returned (.int .i64 (cmpN (val xs) (val ys))) ∧ Qt w w' := by
  go_enter Try.func20, Try.ntmps20
  go_wp2_with fail
  refine (trimmed_any N _ ao n cap xs h hlen).mono ?_
  rintro e w1 ⟨rfl, a1, n1, c1, rfl, s1, l1⟩
  go_wp2_with fail
  refine (trimmed_any N _ bo n2 cap2 ys h2 hlen2).mono ?_
  rintro e w1 ⟨rfl, a2, m1, c2, rfl, s2, l2⟩
  by_cases hn : n1 = m1
  · subst hn
    go_wp2
    go_loopw [5] (fun i wr => ∃ k : Nat, k ≤ n1 ∧ i = .int .i64 ((k : Int) - 1) ∧ (toL (val xs)).drop k = (toL (val ys)).drop k ∧ Qt w wr) (fun i _ => ((intOf i) + 1).toNat)
    case atStart => exact ⟨n1, Nat.le_refl _, rfl, by rw [List.drop_of_length_le (by rw [s1.len]; exact Nat.le_refl _), List.drop_of_length_le (by rw [s2.len]; exact Nat.le_refl _)], Qt.refl _⟩
    case round =>
      obtain ⟨k, hk, rfl, hd, hq⟩ := hrel
      have HD : Hid ((toL (val xs)).drop k = (toL (val ys)).drop k) := hd
      clear hd
      by_cases h0 : k = 0
      · subst h0
        go_wp2
        go_ret
        exact ⟨ret1 (by rw [cmpN_eq (toL_inj (by simpa using HD.out))]), hq⟩
      · obtain ⟨j, rfl⟩ : ∃ j, k = j + 1 := ⟨k - 1, by omega⟩
        obtain ⟨b, o, x, rfl, hb, hcell, hx, HX⟩ := (hq.sl s1).cell j (by omega)
        obtain ⟨b', o', x', rfl, hb', hcell', hx', HX'⟩ := (hq.sl s2).cell j (by omega)
        have ej : ((j + 1 : Nat) : Int) - 1 = (j : Int) := by omega
        rw [ej]
        clear ej
        have hj1 : (j : Int) < (n1 : Int) := by omega
        have hj0 : (0 : Int) ≤ (j : Int) := by omega
        by_cases hxx : x = x'
        · subst hxx
          have HX2 : Hid ((toL (val xs)).drop j = (toL (val ys)).drop j) := drop_step (by rw [s1.len]; omega) (by rw [s2.len]; omega) HD.out (by rw [← HX.out, ← HX'.out])
          go_wp2
          go_quiet (fail)
          go_wp2
          go_roundw
          case rel => exact ⟨j, by omega, by go_num, HX2.out, hq.drewN _⟩
          case measure => simp [intOf]
        · have hne : ((x : Int) != (x' : Int)) = true := by rw [bne_iff_ne]; omega
          by_cases hl : x < x'
          · have HL : Hid (cmpN (val xs) (val ys) = -1) := cmpN_lt (by
              have := val_lt_of_limb (Lim_toL (val xs)) (by rw [s1.len]; omega) (by rw [s2.len]; omega) HD.out (by rw [← HX.out, ← HX'.out]; exact hl)
              rwa [val_toL, val_toL] at this)
            go_wp2
            go_quiet (fail)
            go_wp2
            have hq2 : Qt w (wr.drewN nq) := hq.drewN nq
            have hc1 : (wr.drewN nq).cell? ⟨b, o + j, none⟩ = some (.int .u32 (x : Int)) := hcell
            have hc2 : (wr.drewN nq).cell? ⟨b', o' + j, none⟩ = some (.int .u32 (x' : Int)) := hcell'
            generalize wr.drewN nq = wq at hq2 hc1 hc2 ⊢
            clear hcell hcell'
            go_quiet ((go_at_call 39; exact Calls.quiet_of_same (order_any _ _)))
            go_wp2
            go_ret
            exact ⟨ret1 (by rw [HL.out]; first | done | (simp; done) | (simp; omega)), hq2.drewN _⟩
          · have HL : Hid (cmpN (val xs) (val ys) = 1) := cmpN_gt (by
              have := val_lt_of_limb (Lim_toL (val ys)) (by rw [s2.len]; omega) (by rw [s1.len]; omega) HD.out.symm (by rw [← HX.out, ← HX'.out]; omega)
              rwa [val_toL, val_toL] at this)
            have hl' : x' ≤ x := by omega
            go_wp2
            go_quiet (fail)
            go_wp2
            have hq2 : Qt w (wr.drewN nq) := hq.drewN nq
            have hc1 : (wr.drewN nq).cell? ⟨b, o + j, none⟩ = some (.int .u32 (x : Int)) := hcell
            have hc2 : (wr.drewN nq).cell? ⟨b', o' + j, none⟩ = some (.int .u32 (x' : Int)) := hcell'
            generalize wr.drewN nq = wq at hq2 hc1 hc2 ⊢
            clear hcell hcell'
            go_quiet ((go_at_call 39; exact Calls.quiet_of_same (order_any _ _)))
            go_wp2
            go_ret
            exact ⟨ret1 (by rw [HL.out]; first | done | (simp; done) | (simp; omega)), hq2.drewN _⟩
  · have hne : ((n1 : Int) != (m1 : Int)) = true := by rw [bne_iff_ne]; omega
    by_cases hl : n1 < m1
    · have HL : Hid (cmpN (val xs) (val ys) = -1) := cmpN_lt (toL_len_lt (by rw [s1.len, s2.len]; exact hl))
      go_wp2_with (go_at_call 39; refine (order_any _ _).mono ?_; rintro e w' ⟨rfl, rfl⟩)
      go_ret
      exact ⟨ret1 (by rw [HL.out]), Qt.refl _⟩
    · have HL : Hid (cmpN (val xs) (val ys) = 1) := cmpN_gt (toL_len_lt (by rw [s1.len, s2.len]; omega))
      go_wp2_with (go_at_call 39; refine (order_any _ _).mono ?_; rintro e w' ⟨rfl, rfl⟩)
      go_ret
      exact ⟨ret1 (by rw [HL.out]), Qt.refl _⟩

end Go.Proofs.Ythcclkjccaoniaa
