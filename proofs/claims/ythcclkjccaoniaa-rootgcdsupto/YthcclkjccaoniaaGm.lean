/- root.rootOf, Sqrt. -/
import Derived.Test.YthcclkjccaoniaaGk
namespace Go.Proofs.Ythcclkjccaoniaa
open Go.RowKit M

theorem toL_drop (A k : Nat) : (toL A).drop k = toL (A / Bp k) := by
  by_cases hk : k < (toL A).length
  · have hA : A ≠ 0 := by intro h; rw [h, toL_zero] at hk; simp at hk
    have hv := val_take_drop (toL A) k (by omega)
    rw [val_toL] at hv
    have hl : val ((toL A).take k) < Bp k := by
      have := val_lt ((Lim_toL A).take k)
      rwa [List.length_take, Nat.min_eq_left (by omega)] at this
    have hd : A / Bp k = val ((toL A).drop k) := by
      generalize val ((toL A).take k) = T at *
      generalize val ((toL A).drop k) = X at *
      rw [hv, Nat.add_mul_div_left _ _ (by omega), Nat.div_eq_of_lt hl, Nat.zero_add]
    rw [hd]
    refine (toL_of_normal ((Lim_toL A).drop k) (.inr ?_)).symm
    rw [List.length_drop, getD_drop, show k + ((toL A).length - k - 1) = (toL A).length - 1 from by omega]
    exact toL_last hA
  · rw [List.drop_of_length_le (by omega)]
    have : A < Bp k := by
      have := val_lt (Lim_toL A)
      rw [val_toL] at this
      exact Nat.lt_of_lt_of_le this (Bp_mono (by omega))
    rw [Nat.div_eq_of_lt this, toL_zero]

theorem toL_shift {u : Nat} (k : Nat) (hu : u ≠ 0) : List.replicate k 0 ++ toL u = toL (Bp k * u) := by
  have hv : val (List.replicate k 0 ++ toL u) = Bp k * u := by
    rw [val_append, val_rep, List.length_replicate, val_toL, Nat.zero_add]
  rw [← hv]
  refine (toL_of_normal ((Lim.rep k).append (Lim_toL u)) (.inr ?_)).symm
  have hl := toL_length_pos hu
  rw [List.length_append, List.length_replicate, List.getD_eq_getElem?_getD, List.getElem?_append_right (by simp; omega), List.length_replicate, ← List.getD_eq_getElem?_getD, show k + (toL u).length - 1 - k = (toL u).length - 1 from by omega]
  exact toL_last hu

/-- 'a[k:]'. -/
theorem Sl.drop {N n cap k : Nat} {w : World} {b o : Nat} {xs : List Nat} (h : Sl N w (some ⟨b, o, none⟩) n cap xs) (hk : k ≤ n) : Sl N w (some ⟨b, o + k, none⟩) (n - k) (cap - k) (xs.drop k) :=
  ⟨by rw [List.length_drop, h.len], by have := h.le; omega, h.lim.drop k, fun hne => by
    obtain ⟨b', o', h1, h2, h3⟩ := h.there (by omega)
    simp only [Option.some.injEq, Addr.mk.injEq, and_true] at h1
    obtain ⟨rfl, rfl⟩ := h1
    exact ⟨b, o + k, rfl, h2, fun i hi => by rw [getD_drop, Nat.add_assoc]; exact h3 (k + i) (by omega)⟩, fun h => by simp at h⟩

/-- The first guess is above the root. -/
theorem guess_above (A k : Nat) : isq A < Bp k * (isq (A / Bp (2 * k)) + 1) := by
  have h1 := isq_lt (A / Bp (2 * k))
  have hB := Bp_add k k
  rw [show k + k = 2 * k from by omega] at hB
  have hp : 0 < Bp (2 * k) := by unfold Bp; exact Nat.pow_pos (by omega)
  have h2 : A < (isq (A / Bp (2 * k)) + 1) * (isq (A / Bp (2 * k)) + 1) * Bp (2 * k) := (Nat.div_lt_iff_lt_mul hp).1 h1
  apply Nat.lt_of_not_le; intro hl
  have h3 := sq_le hl
  have h4 := isq_le A
  have h5 : Bp k * (isq (A / Bp (2 * k)) + 1) * (Bp k * (isq (A / Bp (2 * k)) + 1)) = (isq (A / Bp (2 * k)) + 1) * (isq (A / Bp (2 * k)) + 1) * Bp (2 * k) := by
    rw [hB]; simp only [Nat.mul_comm, Nat.mul_left_comm, Nat.mul_assoc]
  omega
theorem isq_stop {A g : Nat} (h : isq A ≤ g) (hg : 0 < g) (hq : g ≤ A / g) : isq A = g := by
  apply Nat.le_antisymm h
  apply Nat.le_of_not_lt; intro hl
  have h1 := isq_lt A
  have h2 := sq_le (show isq A + 1 ≤ g from hl)
  have h4 : g * g ≤ A := (Nat.le_div_iff_mul_le hg).1 hq
  omega
theorem isq_on {A g : Nat} (h : isq A ≤ g) (hg : 0 < g) (hq : A / g < g) : isq A < g := by
  apply Nat.lt_of_le_of_ne h
  intro he
  have h1 := isq_le A
  have h4 : A < g * g := (Nat.div_lt_iff_lt_mul hg).1 hq
  rw [he] at h1
  omega

theorem cmp_same (a b : Nat) : (cmpN a b == 0) = decide (a = b) := by
  rcases Nat.lt_trichotomy a b with h | h | h
  · rw [cmpN_lt h, decide_eq_false (by omega)]; rfl
  · rw [cmpN_eq h, decide_eq_true h]; rfl
  · rw [cmpN_gt h, decide_eq_false (by omega)]; rfl

/-- What rootOf hands back. -/
def Rooted (w : World) (A : Nat) (e : Ending) (w' : World) : Prop :=
  ∃ ro rn rc, e = .returned (.slice ro rn rc) ∧ Sl w'.heap.size w' ro rn rc (toL (isq A)) ∧ Below w.heap.size w w'

set_option maxHeartbeats 1000000 in
theorem rootOf_small (w : World) (ao : Option Addr) (n cap A : Nat) (h2 : n ≤ 2) (h : Sl w.heap.size w ao n cap (toL A)) : Calls Try.prog 28 #[.slice ao n cap] w (Rooted w A) := by
  have hA := h.bd h2
  rw [val_toL, Bp_succ, Bp_succ, Bp_zero] at hA
  have hA64 : A < 18446744073709551616 := by omega
  clear hA
  go_enter Try.func28, Try.ntmps28
  go_wp2_with fail
  refine (word_any _ w ao n cap _ h h2).mono ?_
  rintro e w' ⟨rfl, rfl⟩
  rw [val_toL]
  go_wp2_with fail
  refine (rootOfWord_any w A hA64).mono ?_
  rintro e w' ⟨rfl, rfl⟩
  have hs := isq_self_le A
  generalize hI : isq A = I at hs
  have HI : Hid _ := hI
  go_wp2_with fail
  refine (of_any w I (by omega)).mono ?_
  rintro e w3 ⟨a3, n3, c3, rfl, s3, b3⟩
  go_wp2
  go_ret
  exact ⟨a3, n3, c3, rfl, by rw [HI.out]; exact s3, b3⟩

set_option maxHeartbeats 2000000 in
theorem rootOf_any : ∀ (L : Nat) (w : World) (ao : Option Addr) (n cap A : Nat), n ≤ L → n ≤ 16777216 → Sl w.heap.size w ao n cap (toL A) → Calls Try.prog 28 #[.slice ao n cap] w (Rooted w A) := by
  intro L
  induction L with
  | zero =>
    intro w ao n cap A hL hn h
    exact rootOf_small w ao n cap A (by omega) h
  | succ L ih =>
    intro w ao n cap A hL hn h
    by_cases h2 : n ≤ 2
    · exact rootOf_small w ao n cap A h2 h
    · have h3 : 2 < n := by omega
      obtain ⟨b, o, hao, hb, _⟩ := h.there (by omega)
      subst hao
      have hle := h.le
      obtain ⟨k, hk⟩ : ∃ k, k = (n + 1) / 4 := ⟨_, rfl⟩
      have hk1 : 1 ≤ k := by omega
      have hk2 : 2 * k < n := by omega
      have ek : ((n : Int) + 1) / 4 = (k : Int) := by omega
      have et : ((n : Int) + 1).tdiv 4 = (k : Int) := by rw [Int.tdiv_eq_ediv_of_nonneg (by omega)]; exact ek
      have sd := h.drop (k := 2 * k) (by omega)
      rw [toL_drop] at sd
      have hkn : 4 * k ≤ n + 1 := by omega
      clear hk
      go_enter Try.func28, Try.ntmps28
      go_wp2_with fail
      refine (ih w _ (n - 2 * k) (cap - 2 * k) (A / Bp (2 * k)) (by omega) (by omega) sd).mono ?_
      rintro e w1 ⟨r1, m1, d1, rfl, s1, b1⟩
      have hV : Hid (A < Bp n) := by show A < Bp n; have := h.lt; rwa [val_toL] at this
      have hgA := guess_above A k
      have hm1 : m1 ≤ n := s1.ln (Nat.lt_of_le_of_lt (Nat.le_trans (isq_self_le _) (Nat.div_le_self _ _)) hV.out)
      have hg0 : Hid (Bp k * (isq (A / Bp (2 * k)) + 1) < Bp (n + 1 + k)) := by
        show Bp k * (isq (A / Bp (2 * k)) + 1) < Bp (n + 1 + k)
        have h1 := Nat.le_trans (isq_self_le (A / Bp (2 * k))) (Nat.div_le_self A (Bp (2 * k)))
        have h2 : isq (A / Bp (2 * k)) + 1 < Bp (n + 1) := by
          have := hV.out
          rw [Bp_succ]; omega
        rw [Nat.add_comm (n + 1) k, Bp_add]
        exact Nat.mul_lt_mul_of_pos_left h2 (by unfold Bp; exact Nat.pow_pos (by omega))
      have sa1 := h.later b1
      generalize isq (A / Bp (2 * k)) = u at *
      clear h sd
      go_wp2_with fail
      refine (of_any w1 1 (by omega)).mono ?_
      rintro e w2 ⟨r2, m2, d2, rfl, s2, b2⟩
      have hm2 : m2 ≤ 1 := s2.ln (by rw [Bp_succ, Bp_zero]; omega)
      have s1' := s1.later b2
      have sa2 := sa1.later b2
      have bb2 := b1.trans (b2.mono b1.size)
      clear s1 sa1 b1 b2
      go_wp2_with fail
      refine (add_any w2 r1 r2 m1 d1 m2 d2 _ _ s1' s2 (by omega) (by omega)).mono ?_
      rintro e w3 ⟨r3, m3, d3, rfl, s3, b3⟩
      rw [val_toL, val_toL] at s3
      have hm3 : m3 ≤ n + 1 := by
        refine s3.ln ?_
        have h1 := s1'.bd hm1
        rw [val_toL] at h1
        rw [Bp_succ]; omega
      have sa3 := sa2.later b3
      have bb3 := bb2.trans (b3.mono bb2.size)
      clear s1' s2 sa2 b3 bb2
      have hmk := fun u => make_run k (by omega) u
      have bz : Below w3.heap.size w3 (w3.alloc (.cells (u32s (List.replicate k 0)) 32)) := (Below.refl _ _).alloc (Nat.le_refl _) _
      have ow0 : Ow w3.heap.size (w3.alloc (.cells (u32s (List.replicate k 0)) 32)) (.slice (some ⟨w3.heap.size, 0, none⟩) k k) (List.replicate k 0) := Ow.row (Own.alloc _ _) (Lim.rep k) (Nat.le_refl _) (by simp) (by omega)
      have l1 := s3.later bz
      have hbs := bz.size
      go_wp2_with (at_builtin; refine wp_appS rfl _ _ rfl ow0 l1 rfl rfl (by simp; omega) hbs ?_; intro v' w5 hv hb5; obtain ⟨fo, fm, fc, rfl, sf⟩ := hv.sl)
      rw [toL_shift k (by omega)] at sf
      have bw5 := bz.trans hb5
      have sa5 := sa3.later bw5
      have bb5 := bb3.trans (bw5.mono bb3.size)
      clear hmk bz ow0 l1 hbs hb5 hv s3 sa3 bw5 bb3
      generalize hg : Bp k * (u + 1) = g0 at *
      have HA0 : Hid (A ≠ 0) := by
        show A ≠ 0
        intro hz
        have := sa5.len
        rw [hz, toL_zero] at this
        simp at this
        omega
      have HG0 : Hid (isq A ≤ g0) := Nat.le_of_lt hgA
      have hk3 : k ≤ n := by omega
      clear hg hgA ek et
      go_loopg [5] g0 (fun gk gv wr => ∃ go gn gc g, gv = .slice go gn gc ∧ Sl wr.heap.size wr go gn gc (toL g) ∧ Sl wr.heap.size wr (some ⟨b, o, none⟩) n cap (toL A) ∧ Hid (isq A ≤ g) ∧ Hid (g < Bp (n + 1 + k)) ∧ Below w.heap.size w wr ∧ Hid (gk = g))
      case atStart => exact ⟨fo, fm, fc, g0, rfl, sf, sa5, HG0, hg0, bb5, rfl⟩
      case round =>
        clear sf sa5 HG0 hg0 bb5
        obtain ⟨go, gn, gc, g, rfl, sg, sa, HI, HGB, bw, HK⟩ := hrel
        have hgn : gn ≤ n + 1 + k := sg.ln HGB.out
        have hg0 : 0 < g := Nat.lt_of_lt_of_le (isq_pos HA0.out) HI.out
        go_wp2_with fail
        refine (divMod_k sa sg (n + 1 + k) (by omega) hgn (by omega) (by rw [val_toL]; omega)).mono ?_
        rintro e w6 ⟨qo, qn, qc, ro, rn, rc, rfl, sq, _, hqn, _, b6⟩
        rw [val_toL, val_toL] at sq
        have sg6 := sg.later b6
        have sa6 := sa.later b6
        have bw6 := bw.trans (b6.mono bw.size)
        clear sg sa b6 bw
        go_wp2_with fail
        refine (cmp_k sq sg6 (by omega) (by omega)).mono ?_
        rintro e w7 ⟨rfl, b7⟩
        rw [val_toL, val_toL]
        have sq7 := sq.later b7
        have sg7 := sg6.later b7
        have sa7 := sa6.later b7
        have bw7 := bw6.trans (b7.mono bw6.size)
        clear sq sg6 sa6 b7 bw6
        have HN : Hid (isq A ≤ (g + A / g) / 2) := newton_ge hg0
        have HON : Hid (A / g < g → isq A < g) := isq_on HI.out hg0
        have HST : Hid (g ≤ A / g → isq A = g) := isq_stop HI.out hg0
        generalize A / g = q at *
        by_cases hlt : q < g
        · have HL : Hid ((g + q) / 2 < gk) := by show (g + q) / 2 < gk; have := HK.out; omega
          rw [cmpN_lt hlt]
          go_wp2_with fail
          refine (add_any w7 go qo gn gc qn qc _ _ sg7 sq7 (by omega) (by omega)).mono ?_
          rintro e w8 ⟨a8, n8, c8, rfl, s8, b8⟩
          rw [val_toL, val_toL] at s8
          have hn8 : n8 ≤ n + 1 + k + 1 := s8.ln (by rw [Bp_succ]; have := HGB.out; omega)
          have sa8 := sa7.later b8
          have bw8 := bw7.trans (b8.mono bw7.size)
          clear sg7 sq7 sa7 b8 bw7
          go_wp2_with fail
          refine (of_any w8 2 (by omega)).mono ?_
          rintro e w9 ⟨a9, n9, c9, rfl, s9, b9⟩
          have hn9 : n9 ≤ 1 := s9.ln (by rw [Bp_succ, Bp_zero]; omega)
          have s89 := s8.later b9
          have sa9 := sa8.later b9
          have bw9 := bw8.trans (b9.mono bw8.size)
          clear s8 sa8 b9 bw8
          go_wp2_with fail
          refine (divMod_k s89 s9 (n + 1 + k + 1) hn8 (by omega) (by omega) (by rw [val_toL]; omega)).mono ?_
          rintro e wa ⟨qo2, qn2, qc2, ro2, rn2, rc2, rfl, sh, _, _, _, ba⟩
          rw [val_toL, val_toL] at sh
          have saa := sa9.later ba
          have bwa := bw9.trans (ba.mono bw9.size)
          have HB2 : Hid ((g + q) / 2 < Bp (n + 1 + k)) := by show (g + q) / 2 < Bp (n + 1 + k); have := HGB.out; omega
          clear s89 s9 sa9 ba bw9
          go_wp2
          go_roundg ((g + q) / 2)
          case measure => exact HL.out
          case rel => exact ⟨qo2, qn2, qc2, (g + q) / 2, rfl, sh, saa, HN, HB2, bwa, rfl⟩
        · have HE : Hid (isq A = g) := HST.out (by omega)
          have hcm : 0 ≤ cmpN q g := by unfold cmpN; rw [if_neg hlt]; split <;> omega
          generalize cmpN q g = cm at hcm
          clear hlt HST HON HN
          go_wp2
          go_ret
          exact ⟨go, gn, gc, rfl, by rw [HE.out]; exact sg7, bw7⟩

set_option maxHeartbeats 1000000 in
theorem sqrt_k {w : World} {ao : Option Addr} {n cap : Nat} {xs : List Nat} (h : Sl w.heap.size w ao n cap xs) (i : Nat) (hi : n ≤ i) (hb : i ≤ 16777216) :
    Calls Try.prog 13 #[.slice ao n cap] w fun e w' => ∃ ro rn rc, e = .returned (.tuple #[.slice ro rn rc, .bool (decide (isq (val xs) * isq (val xs) = val xs))]) ∧ Sl w'.heap.size w' ro rn rc (toL (isq (val xs))) ∧ rn ≤ i ∧ Below w.heap.size w w' := by
  have hV := h.bd hi
  have hk : (toL (val xs)).length ≤ n := toL_len_le h.lt
  have st := h.take _ hk
  rw [← toL_take h.lim] at st
  have hrt := rtrimmed_any w.heap.size w ao n cap xs h (by omega)
  generalize hlen : (toL (val xs)).length = k at *
  clear hlen
  go_enter Try.func13, Try.ntmps13
  go_wp2_with fail
  refine hrt.mono ?_
  rintro e w1 ⟨rfl, rfl⟩
  clear hrt
  go_wp2_with fail
  refine (rootOf_any k w ao k cap (val xs) (Nat.le_refl _) (by omega) st).mono ?_
  rintro e w1 ⟨r1, m1, d1, rfl, s1, b1⟩
  have hm1 : m1 ≤ i := s1.ln (Nat.lt_of_le_of_lt (isq_self_le _) hV)
  have h1 := h.later b1
  clear h st
  go_wp2_with fail
  refine (mul_k s1 s1 i i hm1 hm1 (by omega) (by omega)).mono ?_
  rintro e w2 ⟨r2, m2, d2, rfl, s2, hm2, b2⟩
  rw [val_toL] at s2
  have s1' := s1.later b2
  have h2 := h1.later b2
  have bb := b1.trans (b2.mono b1.size)
  clear s1 h1 b1 b2
  go_wp2_with fail
  refine (cmp_k s2 h2 (by omega) (by omega)).mono ?_
  rintro e w3 ⟨rfl, b3⟩
  rw [val_toL]
  have s3 := s1'.later b3
  have bb3 := bb.trans (b3.mono bb.size)
  have hd := cmp_same (isq (val xs) * isq (val xs)) (val xs)
  generalize cmpN (isq (val xs) * isq (val xs)) (val xs) = cm at *
  have HD : Hid _ := hd
  clear hd
  go_wp2
  go_ret2
  exact ⟨r1, m1, d1, by rw [← HD.out]; rfl, s3, hm1, bb3⟩
end Go.Proofs.Ythcclkjccaoniaa
