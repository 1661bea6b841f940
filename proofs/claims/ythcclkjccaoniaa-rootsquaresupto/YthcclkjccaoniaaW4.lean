/- nat.addTo, Add, Sub. -/
import Derived.Test.YthcclkjccaoniaaW3
namespace Go.Proofs.Ythcclkjccaoniaa
open Go.RowKit M

/-- What addTo leaves of the sum: a carry beyond its last limb is left out. -/
def Added (s s' ys : List Nat) : Prop := s'.length = s.length ∧ Lim s' ∧ ∃ c, c ≤ 1 ∧ val s' + Bp s.length * c = val s + val ys

set_option maxHeartbeats 1000000 in
theorem addTo_any (w : World) (g o n cap : Nat) (pre s post : List Nat) (bo : Option Addr) (m bcap N : Nat) (ys : List Nat)
    (h : Sg w g o n pre s post) (hb : Sl N w bo m bcap ys) (hN : N ≤ g) (hm : m ≤ n) (hn : n ≤ 1099511627776) :
    Calls Try.prog 38 #[.slice (some ⟨g, o, none⟩) n cap, .slice bo m bcap] w fun e w' => e = .returned (.tuple #[]) ∧ Fr g w w' ∧ ∃ s', Sg w' g o n pre s' post ∧ Added s s' ys := by
  go_enter Try.func38, Try.ntmps38
  go_wp2
  go_loopw [4, 10] (fun cv iv wr => ∃ k c s', k ≤ m ∧ cv = .int .u32 ((c : Nat) : Int) ∧ iv = .int .i64 ((k : Nat) : Int) ∧ Fr g w wr ∧ Sg wr g o n pre s' post ∧ AddInv s s' ys k c) (fun _ iv _ => m - (intOf iv).toNat)
  case atStart => exact ⟨0, 0, s, Nat.zero_le _, rfl, rfl, Fr.refl _ _, h, AddInv.start h.lim⟩
  case round =>
    obtain ⟨k, c, s', hk, rfl, rfl, hf, hs, hi⟩ := hrel
    have hc1 := hi.car
    by_cases hlt : k < m
    · obtain ⟨x, hx1, hx2, hx3, HX⟩ := hs.cell k (by omega)
      obtain ⟨b, p, y, rfl, hy0, hy1, hy2, HY⟩ := (hb.fr hf hN).cell k hlt
      have hbg : b ≠ g := by omega
      go_wp2_with (go_at_call 55; refine (add32_any _ _ _ _ (by omega) (by omega) (by omega) (by omega) (by omega) (by omega)).mono ?_; rintro e w' ⟨rfl, rfl⟩)
      have ev : ((x : Int) + y + c) % 4294967296 = (((x + y + c) % 4294967296 : Nat) : Int) := by omega
      have ec : ((x : Int) + y + c) / 4294967296 = (((x + y + c) / 4294967296 : Nat) : Int) := by omega
      rw [ev, ec]
      go_roundw
      case rel => exact ⟨k + 1, (x + y + c) / 4294967296, s'.set k ((x + y + c) % 4294967296), by omega, rfl, by go_num, hf.set _ _, hs.set (by omega) (by omega),
        hi.step (by rw [h.len]; omega) (hb.lim.getD k) (by rw [← HX.out, ← HY.out]) (by rw [← HX.out, ← HY.out])⟩
      case measure => simp [intOf]; omega
    · obtain rfl : k = m := by omega
      have HY : Hid (ys.length = k) := hb.len
      clear hb
      go_wp2
      go_loopw [4, 7] (fun cv iv wr => ∃ j c s', k ≤ j ∧ j ≤ n ∧ cv = .int .u32 ((c : Nat) : Int) ∧ iv = .int .i64 ((j : Nat) : Int) ∧ Fr g w wr ∧ Sg wr g o n pre s' post ∧ AddInv s s' ys j c) (fun _ iv _ => n - (intOf iv).toNat)
      case atStart => exact ⟨k, c, s', Nat.le_refl _, hm, rfl, rfl, hf, hs, hi⟩
      case round =>
        clear hi hs hf hc1
        obtain ⟨j, c, s', hkj, hj, rfl, rfl, hf, hs, hi⟩ := hrel
        have hc1 := hi.car
        by_cases hlt2 : j < n
        · by_cases hc0 : c = 0
          · have hcb : ((c : Int) != 0) = false := by simp [hc0]
            have HC : Hid (c = 0) := hc0
            clear hc0
            go_wp2
            go_end0
            exact ⟨rfl, hf, s', hs, hi.len, hi.lim, hi.done (by rw [h.len]; exact hj) (by rw [HY.out]; exact hkj) (.inl HC.out)⟩
          · have hcb : ((c : Int) != 0) = true := by rw [bne_iff_ne]; omega
            obtain ⟨x, hx1, hx2, hx3, HX⟩ := hs.cell j (by omega)
            have HZ : Hid (ys.getD j 0 = 0) := getD_beyond (by rw [HY.out]; exact hkj)
            go_wp2_with (go_at_call 55; refine (add32_any _ _ _ _ (by omega) (by omega) (by omega) (by omega) (by omega) (by omega)).mono ?_; rintro e w' ⟨rfl, rfl⟩)
            have ev : ((x : Int) + c) % 4294967296 = (((x + c) % 4294967296 : Nat) : Int) := by omega
            have ec : ((x : Int) + c) / 4294967296 = (((x + c) / 4294967296 : Nat) : Int) := by omega
            rw [ev, ec]
            go_roundw
            case rel => exact ⟨j + 1, (x + c) / 4294967296, s'.set j ((x + c) % 4294967296), by omega, by omega, rfl, by go_num, hf.set _ _, hs.set (by omega) (by omega),
              hi.step (by rw [h.len]; omega) (by rw [HZ.out]; omega) (by rw [← HX.out, HZ.out]; rfl) (by rw [← HX.out, HZ.out]; rfl)⟩
            case measure => simp [intOf]; omega
        · obtain rfl : j = n := by omega
          go_wp2
          go_end0
          exact ⟨rfl, hf, s', hs, hi.len, hi.lim, hi.done (by rw [h.len]; exact hj) (by rw [HY.out]; exact hkj) (.inr h.len.symm)⟩

theorem add_math {a b n : Nat} {ys : List Nat} {s' : List Nat} (h : Added (toL a ++ [0]) s' ys) (ha : (toL a).length = n) (hy : val ys = b) (hb : b < Bp n) : val s' = a + b := by
  obtain ⟨h1, h2, c, hc, he⟩ := h
  have hv : val (toL a ++ [0]) = a := by rw [val_append, val_toL]; simp [val]
  rw [hv, hy, List.length_append, List.length_singleton, ha] at he
  have h3 := val_lt h2
  rw [h1, List.length_append, List.length_singleton, ha] at h3
  have h4 := val_lt (Lim_toL a)
  rw [val_toL, ha] at h4
  rw [Bp_succ] at he h3
  have := Bp_pos n
  rcases (show c = 0 ∨ c = 1 from by omega) with rfl | rfl <;> omega

/-- The rest of Add, a being not shorter than b. -/
theorem add_rest (w : World) (a1 b1 : Option Addr) (n1 c1 m1 d1 A B : Nat) (s1 : Sl w.heap.size w a1 n1 c1 (toL A)) (s2 : Sl w.heap.size w b1 m1 d1 (toL B)) (hl : m1 ≤ n1) (hn : n1 ≤ 1099511627775) :
    (w' : World) → w' = w.alloc (.cells (u32s (toL A ++ [0])) 32) → Calls Try.prog 38 #[.slice (some ⟨w.heap.size, 0, none⟩) (n1 + 1) (n1 + 1), .slice b1 m1 d1] w' fun e w2 => e = .returned (.tuple #[]) ∧
      ∃ s', Sl (w.heap.size + 1) w2 (some ⟨w.heap.size, 0, none⟩) (n1 + 1) (n1 + 1) s' ∧ val s' = A + B ∧ Below w.heap.size w w2 ∧ w2.heap.size = w.heap.size + 1 := by
  rintro w' rfl
  have hb : Below w.heap.size w (w.alloc (.cells (u32s (toL A ++ [0])) 32)) := (Below.refl _ _).alloc (Nat.le_refl _) _
  have hlen : (toL A ++ [0]).length = n1 + 1 := by rw [List.length_append, List.length_singleton, s1.len]
  have hlim : Lim (toL A ++ [0]) := (Lim_toL A).append (Lim.mk (by omega) Lim.nil)
  refine (addTo_any _ w.heap.size 0 (n1 + 1) (n1 + 1) [] (toL A ++ [0]) [] b1 m1 d1 w.heap.size (toL B) (Sg.whole (Own.alloc _ _) hlim hlen) (s2.below hb) (Nat.le_refl _) (by omega) (by omega)).mono ?_
  rintro e w2 ⟨rfl, hf, s', hs, ha⟩
  refine ⟨rfl, s', hs.read (by omega) (n1 + 1) (Nat.le_refl _), add_math ha s1.len (val_toL B) ?_, hb.trans (hf.below (Nat.le_refl _)), by rw [hf.size]; simp⟩
  have := s2.lt
  rw [val_toL] at this
  exact Nat.lt_of_lt_of_le this (Bp_mono hl)

set_option maxHeartbeats 1000000 in
theorem add_any (w : World) (ao bo : Option Addr) (n cap n2 cap2 : Nat) (xs ys : List Nat) (h : Sl w.heap.size w ao n cap xs) (h2 : Sl w.heap.size w bo n2 cap2 ys) (hlen : n ≤ 1099511627775) (hlen2 : n2 ≤ 1099511627775) :
    Calls Try.prog 19 #[.slice ao n cap, .slice bo n2 cap2] w (Gives w (toL (val xs + val ys))) := by
  go_enter Try.func19, Try.ntmps19
  go_wp2_with fail
  refine (trimmed_any _ _ ao n cap xs h (by omega)).mono ?_
  rintro e w1 ⟨rfl, a1, n1, c1, rfl, s1, l1⟩
  go_wp2_with fail
  refine (trimmed_any _ _ bo n2 cap2 ys h2 (by omega)).mono ?_
  rintro e w1 ⟨rfl, a2, m1, c2, rfl, s2, l2⟩
  generalize val xs = A at *
  generalize val ys = B at *
  clear h h2
  by_cases hl : n1 < m1
  · have hmk := fun u => make_run (m1 + 1) (by omega) u
    have em : ((m1 + 1 : Nat) : Int) = (m1 : Int) + 1 := by omega
    rw [em] at hmk
    have hcp := copy_run w a2 m1 c2 (m1 + 1) _ s2 (by omega)
    rw [Nat.add_sub_cancel_left, List.replicate_one] at hcp
    have HA : Hid _ := add_rest w a2 a1 m1 c2 n1 c1 B A s2 s1 (by omega) (by omega)
    clear s1 s2 em
    go_wp2_with fail
    refine (HA.out _ rfl).mono ?_
    rintro e w2 ⟨rfl, s', hs, hv, hbl, hsz⟩
    go_wp2_with fail
    refine (trimmed_any _ _ _ _ _ s' hs (by omega)).mono ?_
    rintro e w3 ⟨rfl, a3, n3, c3, rfl, s3, l3⟩
    go_wp2
    go_ret
    rw [hv] at s3
    exact ⟨a3, n3, c3, rfl, by rw [hsz]; rw [Nat.add_comm A B]; exact s3, hbl⟩
  · have hmk := fun u => make_run (n1 + 1) (by omega) u
    have em : ((n1 + 1 : Nat) : Int) = (n1 : Int) + 1 := by omega
    rw [em] at hmk
    have hcp := copy_run w a1 n1 c1 (n1 + 1) _ s1 (by omega)
    rw [Nat.add_sub_cancel_left, List.replicate_one] at hcp
    have HA : Hid _ := add_rest w a1 a2 n1 c1 m1 c2 A B s1 s2 (by omega) (by omega)
    clear s1 s2 em
    go_wp2_with fail
    refine (HA.out _ rfl).mono ?_
    rintro e w2 ⟨rfl, s', hs, hv, hbl, hsz⟩
    go_wp2_with fail
    refine (trimmed_any _ _ _ _ _ s' hs (by omega)).mono ?_
    rintro e w3 ⟨rfl, a3, n3, c3, rfl, s3, l3⟩
    go_wp2
    go_ret
    rw [hv] at s3
    exact ⟨a3, n3, c3, rfl, by rw [hsz]; exact s3, hbl⟩

end Go.Proofs.Ythcclkjccaoniaa
