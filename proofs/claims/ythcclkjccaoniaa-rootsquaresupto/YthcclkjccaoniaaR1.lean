/- penumbraref01: Norm, Of, limb, Cmp, Zero, Bits. -/
import Derived.Test.YthcclkjccaoniaaR0
namespace Go.Proofs.Ythcclkjccaoniaa
open Go.RowKit M

set_option maxHeartbeats 1000000 in
theorem rnorm_any (w : World) (ao : Option Addr) (n cap : Nat) (xs : List Nat) (h : Sl w.heap.size w ao n cap xs) (hlen : n ≤ 1099511627775) :
    Calls Try.prog 27 #[.slice ao n cap] w (Gives w (toL (val xs))) := by
  have hcap := h.le
  go_enter Try.func27, Try.ntmps27
  go_wp2
  go_loop [3] (fun v => ∃ k : Nat, k ≤ n ∧ v = .int .i64 k ∧ ∀ j, k ≤ j → xs.getD j 0 = 0) (fun v => (intOf v).toNat)
  case atStart => exact ⟨n, Nat.le_refl _, rfl, fun j hj => by rw [List.getD_eq_getElem?_getD, List.getElem?_eq_none (by rw [h.len]; exact hj)]; rfl⟩
  case round =>
    obtain ⟨k, hk, rfl, hz⟩ := hrel
    have HZ : Hid (∀ j, k ≤ j → xs.getD j 0 = 0) := hz
    clear hz
    have fin : (k = 0 ∨ xs.getD (k - 1) 0 ≠ 0) → ∀ v' w', Ow w.heap.size w' v' ([] ++ xs.take k) → Below w.heap.size (w.alloc (.cells #[] 32)) w' → Gives w (toL (val xs)) (.returned v') w' := by
      intro hl v' w' hv hb
      rw [List.nil_append, ← toL_trim h.lim k (by rw [h.len]; exact hk) HZ.out hl] at hv
      obtain ⟨ao', m', cap', rfl, hs⟩ := hv.sl
      exact ⟨ao', m', cap', rfl, hs, ((Below.refl _ _).alloc (Nat.le_refl _) _).trans hb⟩
    have FIN : Hid _ := fin
    have hsl : Sl (w.alloc (.cells #[] 32)).heap.size (w.alloc (.cells #[] 32)) ao k cap (xs.take k) := (h.later ((Below.refl _ _).alloc (Nat.le_refl _) _)).take k hk
    have hst := Ow.start w
    clear fin
    by_cases h0 : k = 0
    · subst h0
      go_wp2_with (at_builtin; refine wp_appS rfl _ _ rfl hst hsl rfl rfl (by simp) (by simp) ?_; intro v' w' hv hb)
      go_ret
      exact FIN.out (by simp) _ _ (by simpa using hv) hb
    · obtain ⟨b, o, x, rfl, hb, hcell, hx, HX⟩ := h.cell (k - 1) (by omega)
      have h1 : 1 ≤ k := by omega
      by_cases hx0 : x = 0
      · have hxb : ((x : Int) == 0) = true := by simp [hx0]
        have HX0 : Hid (x = 0) := hx0
        clear hx0 hst hsl
        go_wp2
        go_round
        case rel => exact ⟨k - 1, by omega, by go_num, fun j hj => by
          by_cases hjk : k ≤ j
          · exact HZ.out j hjk
          · obtain rfl : j = k - 1 := by omega
            rw [← HX.out]; exact HX0.out⟩
        case measure => simp [intOf]; omega
      · have hxb : ((x : Int) == 0) = false := by simp [hx0]
        have HX0 : Hid (x ≠ 0) := hx0
        clear hx0
        go_wp2_with (at_builtin; refine wp_appS rfl _ _ rfl hst hsl rfl rfl (by simp; omega) (by simp) ?_; intro v' w' hv hb')
        go_ret
        exact FIN.out (.inr (by rw [← HX.out]; exact HX0.out)) _ _ hv hb'

set_option maxHeartbeats 400000 in
theorem limb_any (w : World) (ao : Option Addr) (n cap N k : Nat) (xs : List Nat) (h : Sl N w ao n cap xs) :
    Calls Try.prog 50 #[.slice ao n cap, .int .i64 (k : Int)] w fun e w' => e = .returned (.int .u64 ((xs.getD k 0 : Nat) : Int)) ∧ w = w' := by
  by_cases hlt : k < n
  · obtain ⟨b, o, x, rfl, hb, hcell, hx, HX⟩ := h.cell k hlt
    rw [← HX.out]
    have hd : decide ((k : Int) < (n : Int)) = true := by simpa using hlt
    go_enter Try.func50, Try.ntmps50
    go_wp2
    go_ret
    exact ⟨rfl, rfl⟩
  · rw [getD_beyond (by rw [h.len]; omega)]
    have hd : decide ((k : Int) < (n : Int)) = false := by simpa using hlt
    go_enter Try.func50, Try.ntmps50
    go_wp2
    go_ret
    exact ⟨rfl, rfl⟩

/-- The two lists, made as long as one another by noughts, agree from k on. -/
def Ag (xs ys : List Nat) (k : Nat) : Prop := ∀ j, k ≤ j → xs.getD j 0 = ys.getD j 0
theorem pad_get (xs : List Nat) (m j : Nat) : (xs ++ List.replicate m 0).getD j 0 = xs.getD j 0 := by
  by_cases h : j < xs.length
  · simp [List.getD_eq_getElem?_getD, List.getElem?_append_left h]
  · rw [List.getD_eq_getElem?_getD, List.getElem?_append_right (by omega), getD_beyond (by omega)]
    by_cases h2 : j - xs.length < m <;> simp [h2]
theorem val_pad (xs : List Nat) (m : Nat) : val (xs ++ List.replicate m 0) = val xs := by rw [val_append, val_rep]; omega
theorem Ag.lt {xs ys : List Nat} {k : Nat} (hx : Lim xs) (h : Ag xs ys (k + 1)) (hl : xs.getD k 0 < ys.getD k 0) : val xs < val ys := by
  have hX : Lim (xs ++ List.replicate (ys.length + k + 1) 0) := hx.append (Lim.rep _)
  have e := val_lt_of_limb (xs := xs ++ List.replicate (ys.length + k + 1) 0) (ys := ys ++ List.replicate (xs.length + k + 1) 0) (k := k) hX (by simp; omega) (by simp; omega)
    (drop_eq (by simp; omega) (fun j hj => by rw [pad_get, pad_get]; exact h j hj)) (by rw [pad_get, pad_get]; exact hl)
  rwa [val_pad, val_pad] at e
theorem Ag.eq {xs ys : List Nat} (h : Ag xs ys 0) : val xs = val ys := by
  have : xs ++ List.replicate ys.length 0 = ys ++ List.replicate xs.length 0 := list_ext (by simp; omega) (fun j => by rw [pad_get, pad_get]; exact h j (Nat.zero_le _))
  rw [← val_pad xs ys.length, this, val_pad]

set_option maxHeartbeats 1000000 in
theorem rcmp_any (w : World) (ao bo : Option Addr) (n cap n2 cap2 N : Nat) (xs ys : List Nat) (h : Sl N w ao n cap xs) (h2 : Sl N w bo n2 cap2 ys) (hlen : n ≤ 1099511627775) (hlen2 : n2 ≤ 1099511627775) :
    Calls Try.prog 32 #[.slice ao n cap, .slice bo n2 cap2] w fun e w' => e = .returned (.int .i64 (cmpN (val xs) (val ys))) ∧ w = w' := by
  by_cases hl : n2 ≤ n
  · go_enter Try.func32, Try.ntmps32
    go_wp2
    go_loop [5] (fun iv => ∃ k : Nat, k ≤ n ∧ iv = .int .i64 ((k : Int) - 1) ∧ Ag xs ys k) (fun iv => (intOf iv + 1).toNat)
    case atStart => exact ⟨n, Nat.le_refl _, rfl, fun j hj => by rw [getD_beyond (by rw [h.len]; omega), getD_beyond (by rw [h2.len]; omega)]⟩
    case round =>
      obtain ⟨k, hk, rfl, hag⟩ := hrel
      by_cases h0 : k = 0
      · subst h0
        have HE : Hid (cmpN (val xs) (val ys) = 0) := cmpN_eq hag.eq
        go_wp2
        go_ret
        exact ⟨ret1 HE.out.symm, rfl⟩
      · obtain ⟨j, rfl⟩ : ∃ j, k = j + 1 := ⟨k - 1, by omega⟩
        rw [show ((j + 1 : Nat) : Int) - 1 = (j : Int) from by omega]
        have cx := fun w (hs : Sl N w ao n cap xs) => limb_any w ao n cap N j xs hs
        have cy := fun w (hs : Sl N w bo n2 cap2 ys) => limb_any w bo n2 cap2 N j ys hs
        obtain ⟨x, hx⟩ : ∃ x, x = xs.getD j 0 := ⟨_, rfl⟩
        obtain ⟨y, hy⟩ : ∃ y, y = ys.getD j 0 := ⟨_, rfl⟩
        rw [← hx] at cx
        rw [← hy] at cy
        have HX : Hid _ := hx
        have HY : Hid _ := hy
        have CX : Hid _ := cx
        have CY : Hid _ := cy
        clear hx hy cx cy
        rcases Nat.lt_trichotomy x y with hl | hl | hl
        · have HE : Hid (cmpN (val xs) (val ys) = -1) := cmpN_lt (hag.lt h.lim (by rw [← HX.out, ← HY.out]; exact hl))
          go_wp2_with fail
          refine (CX.out _ h).mono ?_
          rintro e w' ⟨rfl, rfl⟩
          go_wp2_with fail
          refine (CY.out _ h2).mono ?_
          rintro e w' ⟨rfl, rfl⟩
          go_wp2
          go_ret
          exact ⟨ret1 HE.out.symm, rfl⟩
        · subst hl
          have HA : Hid (Ag xs ys j) := fun i hi => by
            by_cases hij : i = j
            · subst hij; rw [← HX.out, ← HY.out]
            · exact hag i (by omega)
          go_wp2_with fail
          refine (CX.out _ h).mono ?_
          rintro e w' ⟨rfl, rfl⟩
          go_wp2_with fail
          refine (CY.out _ h2).mono ?_
          rintro e w' ⟨rfl, rfl⟩
          go_wp2
          go_round
          case rel => exact ⟨j, by omega, rfl, HA.out⟩
          case measure => simp [intOf]
        · have HE : Hid (cmpN (val xs) (val ys) = 1) := cmpN_gt (Ag.lt h2.lim (fun i hi => (hag i hi).symm) (by rw [← HX.out, ← HY.out]; exact hl))
          have hnl : y ≤ x := by omega
          go_wp2_with fail
          refine (CX.out _ h).mono ?_
          rintro e w' ⟨rfl, rfl⟩
          go_wp2_with fail
          refine (CY.out _ h2).mono ?_
          rintro e w' ⟨rfl, rfl⟩
          go_wp2
          go_ret
          exact ⟨ret1 HE.out.symm, rfl⟩
  · have hl2 : n ≤ n2 := by omega
    go_enter Try.func32, Try.ntmps32
    go_wp2
    go_loop [5] (fun iv => ∃ k : Nat, k ≤ n2 ∧ iv = .int .i64 ((k : Int) - 1) ∧ Ag xs ys k) (fun iv => (intOf iv + 1).toNat)
    case atStart => exact ⟨n2, Nat.le_refl _, rfl, fun j hj => by rw [getD_beyond (by rw [h.len]; omega), getD_beyond (by rw [h2.len]; omega)]⟩
    case round =>
      obtain ⟨k, hk, rfl, hag⟩ := hrel
      by_cases h0 : k = 0
      · subst h0
        have HE : Hid (cmpN (val xs) (val ys) = 0) := cmpN_eq hag.eq
        go_wp2
        go_ret
        exact ⟨ret1 HE.out.symm, rfl⟩
      · obtain ⟨j, rfl⟩ : ∃ j, k = j + 1 := ⟨k - 1, by omega⟩
        rw [show ((j + 1 : Nat) : Int) - 1 = (j : Int) from by omega]
        have cx := fun w (hs : Sl N w ao n cap xs) => limb_any w ao n cap N j xs hs
        have cy := fun w (hs : Sl N w bo n2 cap2 ys) => limb_any w bo n2 cap2 N j ys hs
        obtain ⟨x, hx⟩ : ∃ x, x = xs.getD j 0 := ⟨_, rfl⟩
        obtain ⟨y, hy⟩ : ∃ y, y = ys.getD j 0 := ⟨_, rfl⟩
        rw [← hx] at cx
        rw [← hy] at cy
        have HX : Hid _ := hx
        have HY : Hid _ := hy
        have CX : Hid _ := cx
        have CY : Hid _ := cy
        clear hx hy cx cy
        rcases Nat.lt_trichotomy x y with hl | hl | hl
        · have HE : Hid (cmpN (val xs) (val ys) = -1) := cmpN_lt (hag.lt h.lim (by rw [← HX.out, ← HY.out]; exact hl))
          go_wp2_with fail
          refine (CX.out _ h).mono ?_
          rintro e w' ⟨rfl, rfl⟩
          go_wp2_with fail
          refine (CY.out _ h2).mono ?_
          rintro e w' ⟨rfl, rfl⟩
          go_wp2
          go_ret
          exact ⟨ret1 HE.out.symm, rfl⟩
        · subst hl
          have HA : Hid (Ag xs ys j) := fun i hi => by
            by_cases hij : i = j
            · subst hij; rw [← HX.out, ← HY.out]
            · exact hag i (by omega)
          go_wp2_with fail
          refine (CX.out _ h).mono ?_
          rintro e w' ⟨rfl, rfl⟩
          go_wp2_with fail
          refine (CY.out _ h2).mono ?_
          rintro e w' ⟨rfl, rfl⟩
          go_wp2
          go_round
          case rel => exact ⟨j, by omega, rfl, HA.out⟩
          case measure => simp [intOf]
        · have HE : Hid (cmpN (val xs) (val ys) = 1) := cmpN_gt (Ag.lt h2.lim (fun i hi => (hag i hi).symm) (by rw [← HX.out, ← HY.out]; exact hl))
          have hnl : y ≤ x := by omega
          go_wp2_with fail
          refine (CX.out _ h).mono ?_
          rintro e w' ⟨rfl, rfl⟩
          go_wp2_with fail
          refine (CY.out _ h2).mono ?_
          rintro e w' ⟨rfl, rfl⟩
          go_wp2
          go_ret
          exact ⟨ret1 HE.out.symm, rfl⟩

set_option maxHeartbeats 400000 in
theorem zero_any (w : World) (ao : Option Addr) (n cap : Nat) (xs : List Nat) (h : Sl w.heap.size w ao n cap xs) (hlen : n ≤ 1099511627775) :
    Calls Try.prog 25 #[.slice ao n cap] w fun e w' => e = .returned (.bool (cmpN (val xs) 0 == 0)) ∧ w = w' := by
  go_enter Try.func25, Try.ntmps25
  go_wp2_with fail
  refine (rcmp_any w ao none n cap 0 0 _ xs [] h (Sl.nil _ _) (by omega) (by omega)).mono ?_
  rintro e w' ⟨rfl, rfl⟩
  rw [val_nil]
  generalize hc : cmpN (val xs) 0 = c
  have HC : Hid _ := hc
  clear hc
  go_wp2
  go_ret
  rw [HC.out]
  exact ⟨rfl, rfl⟩

set_option maxHeartbeats 400000 in
theorem rbits_any (w : World) (ao : Option Addr) (n cap : Nat) (xs : List Nat) (h : Sl w.heap.size w ao n cap xs) (hlen : n ≤ 1099511627775) :
    Calls Try.prog 30 #[.slice ao n cap] w fun e w' => e = .returned (.int .i64 (nb (val xs))) ∧ Below w.heap.size w w' := by
  go_enter Try.func30, Try.ntmps30
  go_wp2_with fail
  refine (rnorm_any w ao n cap xs h (by omega)).mono ?_
  rintro e w1 ⟨a1, n1, c1, rfl, s1, b1⟩
  have hn1 : n1 ≤ n := s1.ln (h.bd (Nat.le_refl _))
  by_cases h0 : n1 = 0
  · have HV : Hid (nb (val xs) = 0) := by
      have := s1.len
      rw [h0] at this
      rw [toL_length_zero.1 this]; exact nb_zero
    subst h0
    go_wp2
    go_ret
    exact ⟨ret1 (by rw [HV.out]; rfl), b1⟩
  · obtain ⟨m, rfl⟩ : ∃ m, n1 = m + 1 := ⟨n1 - 1, by omega⟩
    obtain ⟨b, o, x, rfl, hb, hcell, hx, HX⟩ := s1.cell m (by omega)
    have hv : val xs ≠ 0 := by
      intro h0
      have := s1.len
      rw [h0, toL_zero] at this
      simp at this
    have HV : Hid (nb (val xs) = 32 * m + nb x) := by
      show nb (val xs) = _
      rw [nb_toL hv, s1.len, HX.out]
      rfl
    have hcell' : w1.cell? ⟨b, o + (m + 1 - 1), none⟩ = some (.int .u32 (x : Int)) := hcell
    have hz : (((m + 1 : Nat) : Int) == 0) = false := by rw [beq_eq_false_iff_ne]; omega
    clear hv
    go_wp2
    go_loop [4, 5] (fun nv xv => ∃ k y : Nat, nv = .int .i64 (k : Int) ∧ xv = .int .u32 (y : Int) ∧ y < 4294967296 ∧ k + nb y = 32 * m + nb x ∧ k ≤ 35184372088832) (fun _ xv => (intOf xv).toNat)
    case atStart => exact ⟨32 * m, x, by go_num, rfl, hx, rfl, by omega⟩
    case round =>
      obtain ⟨k, y, rfl, rfl, hy, hk, hkb⟩ := hrel
      have HK : Hid (k + nb y = 32 * m + nb x) := hk
      clear hk
      by_cases hy0 : y = 0
      · subst hy0
        go_wp2
        go_ret
        refine ⟨ret1 ?_, b1⟩
        have h1 := HK.out
        have h2 := HV.out
        rw [nb_zero] at h1
        omega
      · have hyp : 0 < y := by omega
        have HH := nb_half hy0
        have hk2 : k ≤ 35184372088831 := by
          have h1 := HK.out
          have h3 : nb x ≤ 32 := by
            have := Lib.bitLenAux_le 64 x 32 (by omega)
            rw [← bitLen_nb x hx]; exact this
          omega
        have HH2 : Hid _ := HH
        clear HH
        go_wp2
        go_round
        case rel => exact ⟨k + 1, y / 2, by go_num, by go_num, by omega, by have h1 := HK.out; have h2 := HH2.out; omega, by omega⟩
        case measure => simp [intOf]; omega

end Go.Proofs.Ythcclkjccaoniaa
