/- penumbraref01: Norm, Of, limb, Cmp, Zero, Bits. -/
import Derived.Test.YtbobhhnhlgdkiaaGreatJ4
import Derived.Deep.RegionLaw
import Derived.Test.YtbobhhnhlgdkiaaGreatJ1
import Derived.Deep.LoopGhost
namespace Go.Proofs.YtbobhhnhlgdkiaaGreat
open Go.RowKit M
set_option maxRecDepth 100000

set_option maxHeartbeats 1000000 in
theorem rnorm_any (w : World) (ao : Option Addr) (n cap : Nat) (xs : List Nat) (h : Sl w.heap.size w ao n cap xs) (hlen : n ≤ 1099511627775) :
    Calls Tryz.prog 96 #[.slice ao n cap] w (Gives w (toL (val xs))) := by
  have hcap := h.le
  go_enter Tryz.func96, Tryz.ntmps96
  go_wp2
  go_loop [3] (fun v => ∃ k : Nat, k ≤ n ∧ v = .int .i64 k ∧ ∀ j, k ≤ j → xs.getD j 0 = 0) (fun v => (intOf v).toNat)
  case atStart => exact ⟨n, Nat.le_refl _, rfl, fun j hj => by rw [List.getD_eq_getElem?_getD, List.getElem?_eq_none (by rw [h.len]; exact hj)]; rfl⟩
  case round =>
    obtain ⟨k, hk, rfl, hz⟩ := hrel
    have HZ : Hid (∀ j, k ≤ j → xs.getD j 0 = 0) := hz
    clear hz
    have fin : (k = 0 ∨ xs.getD (k - 1) 0 ≠ 0) → ∀ v' w', Ow w.heap.size w' v' ([] ++ xs.take k) → Below w.heap.size (w.alloc (.cells #[] 86)) w' → Gives w (toL (val xs)) (.returned v') w' := by
      intro hl v' w' hv hb
      rw [List.nil_append, ← toL_trim h.lim k (by rw [h.len]; exact hk) HZ.out hl] at hv
      obtain ⟨ao', m', cap', rfl, hs⟩ := hv.sl
      exact ⟨ao', m', cap', rfl, hs, ((Below.refl _ _).alloc (Nat.le_refl _) _).trans hb⟩
    have FIN : Hid _ := fin
    have hsl : Sl (w.alloc (.cells #[] 86)).heap.size (w.alloc (.cells #[] 86)) ao k cap (xs.take k) := (h.later ((Below.refl _ _).alloc (Nat.le_refl _) _)).take k hk
    have hst := Ow.start w
    clear fin
    by_cases h0 : k = 0
    · subst h0
      go_wp2_with (at_builtin; refine wp_appS rfl _ _ rfl hst hsl rfl rfl (by simp) (by simp) ?_; intro v' w' hv hb)
      go_ret
      exact FIN.out (by simp) _ _ (by simpa using hv) hb
    · obtain ⟨b, o, x, rfl, hb, hcell, hx, HX⟩ := h.cell (k - 1) (by omega)
      have h1 : 1 ≤ k := by omega
      by_cases hx0 : x = 0
      · have hxb : ((x : Int) == 0) = true := by simp [hx0]
        have HX0 : Hid (x = 0) := hx0
        clear hx0 hst hsl
        go_wp2
        go_round
        case rel => exact ⟨k - 1, by omega, by go_num, fun j hj => by
          by_cases hjk : k ≤ j
          · exact HZ.out j hjk
          · obtain rfl : j = k - 1 := by omega
            rw [← HX.out]; exact HX0.out⟩
        case measure => simp [intOf]; omega
      · have hxb : ((x : Int) == 0) = false := by simp [hx0]
        have HX0 : Hid (x ≠ 0) := hx0
        clear hx0
        go_wp2_with (at_builtin; refine wp_appS rfl _ _ rfl hst hsl rfl rfl (by simp; omega) (by simp) ?_; intro v' w' hv hb')
        go_ret
        exact FIN.out (.inr (by rw [← HX.out]; exact HX0.out)) _ _ hv hb'

set_option maxHeartbeats 400000 in
theorem rof_any (w : World) (x : Nat) (hx : x < 18446744073709551616) :
    Calls Tryz.prog 83 #[.int .u64 (x : Int)] w (Gives w (toL x)) := by
  have hv : val [x % 4294967296, x / 4294967296] = x := by simp only [val_cons, val_nil]; omega
  obtain ⟨l1, lb⟩ := lit1 w 2 [x % 4294967296, x / 4294967296] #[.int .u32 ((x : Int) % 4294967296), .int .u32 ((x : Int) / 4294967296)] (by simp [u32s]) (lim2 (by omega) (by omega)) rfl
  have HV : Hid _ := hv
  clear hv
  go_enter Tryz.func83, Tryz.ntmps83
  go_wp2_with fail
  refine (rnorm_any _ _ 2 2 _ l1 (by omega)).mono ?_
  rintro e w1 ⟨a1, n1, c1, rfl, s1, b1⟩
  rw [HV.out] at s1
  go_wp2
  go_ret
  exact ⟨a1, n1, c1, rfl, s1, lb.trans (b1.mono lb.size)⟩

set_option maxHeartbeats 400000 in
theorem limb_any (w : World) (ao : Option Addr) (n cap N k : Nat) (xs : List Nat) (h : Sl N w ao n cap xs) :
    Calls Tryz.prog 102 #[.slice ao n cap, .int .i64 (k : Int)] w fun e w' => e = .returned (.int .u64 ((xs.getD k 0 : Nat) : Int)) ∧ w = w' := by
  by_cases hlt : k < n
  · obtain ⟨b, o, x, rfl, hb, hcell, hx, HX⟩ := h.cell k hlt
    rw [← HX.out]
    have hd : decide ((k : Int) < (n : Int)) = true := by simpa using hlt
    go_enter Tryz.func102, Tryz.ntmps102
    go_wp2
    go_ret
    exact ⟨rfl, rfl⟩
  · rw [getD_beyond (by rw [h.len]; omega)]
    have hd : decide ((k : Int) < (n : Int)) = false := by simpa using hlt
    go_enter Tryz.func102, Tryz.ntmps102
    go_wp2
    go_ret
    exact ⟨rfl, rfl⟩

/-- The two lists, made as long as one another by noughts, agree from k on. -/
def Ag (xs ys : List Nat) (k : Nat) : Prop := ∀ j, k ≤ j → xs.getD j 0 = ys.getD j 0
theorem pad_get (xs : List Nat) (m j : Nat) : (xs ++ List.replicate m 0).getD j 0 = xs.getD j 0 := by
  by_cases h : j < xs.length
  · simp [List.getD_eq_getElem?_getD, List.getElem?_append_left h]
  · rw [List.getD_eq_getElem?_getD, List.getElem?_append_right (by omega), getD_beyond (by omega)]
    by_cases h2 : j - xs.length < m <;> simp [h2]
theorem val_pad (xs : List Nat) (m : Nat) : val (xs ++ List.replicate m 0) = val xs := by rw [val_append, val_rep]; omega
theorem Ag.lt {xs ys : List Nat} {k : Nat} (hx : Lim xs) (h : Ag xs ys (k + 1)) (hl : xs.getD k 0 < ys.getD k 0) : val xs < val ys := by
  have hX : Lim (xs ++ List.replicate (ys.length + k + 1) 0) := hx.append (Lim.rep _)
  have e := val_lt_of_limb (xs := xs ++ List.replicate (ys.length + k + 1) 0) (ys := ys ++ List.replicate (xs.length + k + 1) 0) (k := k) hX (by simp; omega) (by simp; omega)
    (drop_eq (by simp; omega) (fun j hj => by rw [pad_get, pad_get]; exact h j hj)) (by rw [pad_get, pad_get]; exact hl)
  rwa [val_pad, val_pad] at e
theorem Ag.eq {xs ys : List Nat} (h : Ag xs ys 0) : val xs = val ys := by
  have : xs ++ List.replicate ys.length 0 = ys ++ List.replicate xs.length 0 := list_ext (by simp; omega) (fun j => by rw [pad_get, pad_get]; exact h j (Nat.zero_le _))
  rw [← val_pad xs ys.length, this, val_pad]

set_option maxHeartbeats 1000000 in
theorem rcmp_any (w : World) (ao bo : Option Addr) (n cap n2 cap2 N : Nat) (xs ys : List Nat) (h : Sl N w ao n cap xs) (h2 : Sl N w bo n2 cap2 ys) (hlen : n ≤ 1099511627775) (hlen2 : n2 ≤ 1099511627775) :
    Calls Tryz.prog 89 #[.slice ao n cap, .slice bo n2 cap2] w fun e w' => e = .returned (.int .i64 (cmpN (val xs) (val ys))) ∧ w = w' := by
  by_cases hl : n2 ≤ n
  · go_enter Tryz.func89, Tryz.ntmps89
    go_wp2
    go_loop [5] (fun iv => ∃ k : Nat, k ≤ n ∧ iv = .int .i64 ((k : Int) - 1) ∧ Ag xs ys k) (fun iv => (intOf iv + 1).toNat)
    case atStart => exact ⟨n, Nat.le_refl _, rfl, fun j hj => by rw [getD_beyond (by rw [h.len]; omega), getD_beyond (by rw [h2.len]; omega)]⟩
    case round =>
      obtain ⟨k, hk, rfl, hag⟩ := hrel
      by_cases h0 : k = 0
      · subst h0
        have HE : Hid (cmpN (val xs) (val ys) = 0) := cmpN_eq hag.eq
        go_wp2
        go_ret
        exact ⟨ret1 HE.out.symm, rfl⟩
      · obtain ⟨j, rfl⟩ : ∃ j, k = j + 1 := ⟨k - 1, by omega⟩
        rw [show ((j + 1 : Nat) : Int) - 1 = (j : Int) from by omega]
        have cx := fun w (hs : Sl N w ao n cap xs) => limb_any w ao n cap N j xs hs
        have cy := fun w (hs : Sl N w bo n2 cap2 ys) => limb_any w bo n2 cap2 N j ys hs
        obtain ⟨x, hx⟩ : ∃ x, x = xs.getD j 0 := ⟨_, rfl⟩
        obtain ⟨y, hy⟩ : ∃ y, y = ys.getD j 0 := ⟨_, rfl⟩
        rw [← hx] at cx
        rw [← hy] at cy
        have HX : Hid _ := hx
        have HY : Hid _ := hy
        have CX : Hid _ := cx
        have CY : Hid _ := cy
        clear hx hy cx cy
        rcases Nat.lt_trichotomy x y with hl | hl | hl
        · have HE : Hid (cmpN (val xs) (val ys) = -1) := cmpN_lt (hag.lt h.lim (by rw [← HX.out, ← HY.out]; exact hl))
          go_wp2_with fail
          refine (CX.out _ h).mono ?_
          rintro e w' ⟨rfl, rfl⟩
          go_wp2_with fail
          refine (CY.out _ h2).mono ?_
          rintro e w' ⟨rfl, rfl⟩
          go_wp2
          go_ret
          exact ⟨ret1 HE.out.symm, rfl⟩
        · subst hl
          have HA : Hid (Ag xs ys j) := fun i hi => by
            by_cases hij : i = j
            · subst hij; rw [← HX.out, ← HY.out]
            · exact hag i (by omega)
          go_wp2_with fail
          refine (CX.out _ h).mono ?_
          rintro e w' ⟨rfl, rfl⟩
          go_wp2_with fail
          refine (CY.out _ h2).mono ?_
          rintro e w' ⟨rfl, rfl⟩
          go_wp2
          go_round
          case rel => exact ⟨j, by omega, rfl, HA.out⟩
          case measure => simp [intOf]
        · have HE : Hid (cmpN (val xs) (val ys) = 1) := cmpN_gt (Ag.lt h2.lim (fun i hi => (hag i hi).symm) (by rw [← HX.out, ← HY.out]; exact hl))
          have hnl : y ≤ x := by omega
          go_wp2_with fail
          refine (CX.out _ h).mono ?_
          rintro e w' ⟨rfl, rfl⟩
          go_wp2_with fail
          refine (CY.out _ h2).mono ?_
          rintro e w' ⟨rfl, rfl⟩
          go_wp2
          go_ret
          exact ⟨ret1 HE.out.symm, rfl⟩
  · have hl2 : n ≤ n2 := by omega
    go_enter Tryz.func89, Tryz.ntmps89
    go_wp2
    go_loop [5] (fun iv => ∃ k : Nat, k ≤ n2 ∧ iv = .int .i64 ((k : Int) - 1) ∧ Ag xs ys k) (fun iv => (intOf iv + 1).toNat)
    case atStart => exact ⟨n2, Nat.le_refl _, rfl, fun j hj => by rw [getD_beyond (by rw [h.len]; omega), getD_beyond (by rw [h2.len]; omega)]⟩
    case round =>
      obtain ⟨k, hk, rfl, hag⟩ := hrel
      by_cases h0 : k = 0
      · subst h0
        have HE : Hid (cmpN (val xs) (val ys) = 0) := cmpN_eq hag.eq
        go_wp2
        go_ret
        exact ⟨ret1 HE.out.symm, rfl⟩
      · obtain ⟨j, rfl⟩ : ∃ j, k = j + 1 := ⟨k - 1, by omega⟩
        rw [show ((j + 1 : Nat) : Int) - 1 = (j : Int) from by omega]
        have cx := fun w (hs : Sl N w ao n cap xs) => limb_any w ao n cap N j xs hs
        have cy := fun w (hs : Sl N w bo n2 cap2 ys) => limb_any w bo n2 cap2 N j ys hs
        obtain ⟨x, hx⟩ : ∃ x, x = xs.getD j 0 := ⟨_, rfl⟩
        obtain ⟨y, hy⟩ : ∃ y, y = ys.getD j 0 := ⟨_, rfl⟩
        rw [← hx] at cx
        rw [← hy] at cy
        have HX : Hid _ := hx
        have HY : Hid _ := hy
        have CX : Hid _ := cx
        have CY : Hid _ := cy
        clear hx hy cx cy
        rcases Nat.lt_trichotomy x y with hl | hl | hl
        · have HE : Hid (cmpN (val xs) (val ys) = -1) := cmpN_lt (hag.lt h.lim (by rw [← HX.out, ← HY.out]; exact hl))
          go_wp2_with fail
          refine (CX.out _ h).mono ?_
          rintro e w' ⟨rfl, rfl⟩
          go_wp2_with fail
          refine (CY.out _ h2).mono ?_
          rintro e w' ⟨rfl, rfl⟩
          go_wp2
          go_ret
          exact ⟨ret1 HE.out.symm, rfl⟩
        · subst hl
          have HA : Hid (Ag xs ys j) := fun i hi => by
            by_cases hij : i = j
            · subst hij; rw [← HX.out, ← HY.out]
            · exact hag i (by omega)
          go_wp2_with fail
          refine (CX.out _ h).mono ?_
          rintro e w' ⟨rfl, rfl⟩
          go_wp2_with fail
          refine (CY.out _ h2).mono ?_
          rintro e w' ⟨rfl, rfl⟩
          go_wp2
          go_round
          case rel => exact ⟨j, by omega, rfl, HA.out⟩
          case measure => simp [intOf]
        · have HE : Hid (cmpN (val xs) (val ys) = 1) := cmpN_gt (Ag.lt h2.lim (fun i hi => (hag i hi).symm) (by rw [← HX.out, ← HY.out]; exact hl))
          have hnl : y ≤ x := by omega
          go_wp2_with fail
          refine (CX.out _ h).mono ?_
          rintro e w' ⟨rfl, rfl⟩
          go_wp2_with fail
          refine (CY.out _ h2).mono ?_
          rintro e w' ⟨rfl, rfl⟩
          go_wp2
          go_ret
          exact ⟨ret1 HE.out.symm, rfl⟩

set_option maxHeartbeats 400000 in
theorem zero_any (w : World) (ao : Option Addr) (n cap : Nat) (xs : List Nat) (h : Sl w.heap.size w ao n cap xs) (hlen : n ≤ 1099511627775) :
    Calls Tryz.prog 78 #[.slice ao n cap] w fun e w' => e = .returned (.bool (cmpN (val xs) 0 == 0)) ∧ w = w' := by
  go_enter Tryz.func78, Tryz.ntmps78
  go_wp2_with fail
  refine (rcmp_any w ao none n cap 0 0 _ xs [] h (Sl.nil _ _) (by omega) (by omega)).mono ?_
  rintro e w' ⟨rfl, rfl⟩
  rw [val_nil]
  generalize hc : cmpN (val xs) 0 = c
  have HC : Hid _ := hc
  clear hc
  go_wp2
  go_ret
  rw [HC.out]
  exact ⟨rfl, rfl⟩

end Go.Proofs.YtbobhhnhlgdkiaaGreat

/- penumbraref01: Add, Sub. -/
namespace Go.Proofs.YtbobhhnhlgdkiaaGreat
open Go.RowKit M
set_option maxRecDepth 100000

theorem val_snoc (zs : List Nat) (v : Nat) : val (zs ++ [v]) = val zs + Bp zs.length * v := by rw [val_append, val_cons, val_nil, Nat.mul_zero, Nat.add_zero]

theorem val_take_drop' (xs : List Nat) (k : Nat) : val xs = val (xs.take k) + Bp k * val (xs.drop k) := by
  by_cases h : k ≤ xs.length
  · exact val_take_drop xs k h
  · rw [List.take_of_length_le (by omega), List.drop_of_length_le (by omega)]; simp [val]

/-- Sums, limb by limb, the answer growing: after k rounds. -/
structure RaInv (xs ys zs : List Nat) (k c : Nat) : Prop where
  len : zs.length = k
  car : c ≤ 1
  sum : val zs + Bp k * c = val (xs.take k) + val (ys.take k)
theorem RaInv.step {xs ys zs : List Nat} {k c x y : Nat} (h : RaInv xs ys zs k c) (hx : x = xs.getD k 0) (hy : y = ys.getD k 0) (hx2 : x < 4294967296) (hy2 : y < 4294967296) :
    RaInv xs ys (zs ++ [(x + y + c) % 4294967296]) (k + 1) ((x + y + c) / 4294967296) := by
  have hc := h.car
  refine ⟨by rw [List.length_append, h.len]; rfl, by omega, ?_⟩
  rw [val_snoc, val_take_succ' xs, val_take_succ' ys, Bp_succ, h.len, ← hx, ← hy]
  have e : (x + y + c) % 4294967296 + 4294967296 * ((x + y + c) / 4294967296) = x + y + c := by omega
  have e2 := congrArg (Bp k * ·) e
  simp only [Nat.mul_add] at e2
  rw [Nat.mul_assoc, Nat.mul_left_comm 4294967296 (Bp k)]
  have := h.sum
  omega
theorem RaInv.done {xs ys zs : List Nat} {k c : Nat} (h : RaInv xs ys zs k c) (hx : xs.length ≤ k) (hy : ys.length ≤ k) : val (zs ++ [c]) = val xs + val ys := by
  have hs := h.sum
  rw [List.take_of_length_le hx, List.take_of_length_le hy] at hs
  rw [val_snoc, h.len, hs]

set_option maxHeartbeats 1000000 in
theorem radd_any (w : World) (ao bo : Option Addr) (n cap n2 cap2 : Nat) (xs ys : List Nat) (h : Sl w.heap.size w ao n cap xs) (h2 : Sl w.heap.size w bo n2 cap2 ys) (hlen : n ≤ 549755813888) (hlen2 : n2 ≤ 549755813888) :
    Calls Tryz.prog 88 #[.slice ao n cap, .slice bo n2 cap2] w (Gives w (toL (val xs + val ys))) := by
  go_enter Tryz.func88, Tryz.ntmps88
  go_wp2
  go_loopw [5, 6, 7] (fun v cv iv wr => ∃ k c zs, k ≤ 549755813888 ∧ cv = .int .u64 ((c : Nat) : Int) ∧ iv = .int .i64 ((k : Nat) : Int) ∧ Below w.heap.size w wr ∧ Ow w.heap.size wr v zs ∧ RaInv xs ys zs k c) (fun _ _ iv _ => (n + n2) - (intOf iv).toNat)
  case atStart => exact ⟨0, 0, [], by omega, rfl, rfl, (Below.refl _ _).alloc (Nat.le_refl _) _, Ow.start w, ⟨rfl, by omega, by simp [val]⟩⟩
  case round =>
    obtain ⟨k, c, zs, hk, rfl, rfl, hbl, how, hi⟩ := hrel
    have hc1 := hi.car
    have t1 := h.below hbl
    have t2 := h2.below hbl
    by_cases hend : k < n ∨ k < n2
    · have cx := fun w (hs : Sl w.heap.size w ao n cap xs) => limb_any w ao n cap _ k xs hs
      have cy := fun w (hs : Sl w.heap.size w bo n2 cap2 ys) => limb_any w bo n2 cap2 _ k ys hs
      obtain ⟨x, hx⟩ : ∃ x, x = xs.getD k 0 := ⟨_, rfl⟩
      obtain ⟨y, hy⟩ : ∃ y, y = ys.getD k 0 := ⟨_, rfl⟩
      have hx2 : x < 4294967296 := by rw [hx]; exact h.lim.getD k
      have hy2 : y < 4294967296 := by rw [hy]; exact h2.lim.getD k
      have HS : Hid _ := hi.step hx hy hx2 hy2
      rw [← hx] at cx
      rw [← hy] at cy
      have CX : Hid _ := cx
      have CY : Hid _ := cy
      have t1' : Sl wr.heap.size wr ao n cap xs := t1.mono hbl.size
      have t2' : Sl wr.heap.size wr bo n2 cap2 ys := t2.mono hbl.size
      have hzl := hi.len
      have HZ : Hid (zs.length = k) := hzl
      have hbs := hbl.size
      clear hx hy cx cy hzl
      by_cases ha : k < n
      · have hg : decide ((k : Int) < (n : Int)) = true := by simpa using ha
        go_wp2_with fail
        refine (CX.out _ t1').mono ?_
        rintro e w' ⟨rfl, rfl⟩
        go_wp2_with fail
        refine (CY.out _ t2').mono ?_
        rintro e w' ⟨rfl, rfl⟩
        go_wp2_with (at_builtin; refine wp_app1 rfl _ _ rfl ((x + y + c) % 4294967296) _ how rfl rfl (by omega) (by omega) (by rw [HZ.out]; omega) hbs ?_; intro v' w2 hv hb2)
        have ec : ((x : Int) + y + c) / 4294967296 = (((x + y + c) / 4294967296 : Nat) : Int) := by omega
        rw [ec]
        go_roundw
        case rel => exact ⟨k + 1, _, _, by omega, rfl, by go_num, hbl.trans hb2, hv, HS.out⟩
        case measure => simp [intOf]; omega
      · have hg : decide ((k : Int) < (n : Int)) = false := by simpa using ha
        have hg2 : decide ((k : Int) < (n2 : Int)) = true := by simp; omega
        go_wp2_with fail
        refine (CX.out _ t1').mono ?_
        rintro e w' ⟨rfl, rfl⟩
        go_wp2_with fail
        refine (CY.out _ t2').mono ?_
        rintro e w' ⟨rfl, rfl⟩
        go_wp2_with (at_builtin; refine wp_app1 rfl _ _ rfl ((x + y + c) % 4294967296) _ how rfl rfl (by omega) (by omega) (by rw [HZ.out]; omega) hbs ?_; intro v' w2 hv hb2)
        have ec : ((x : Int) + y + c) / 4294967296 = (((x + y + c) / 4294967296 : Nat) : Int) := by omega
        rw [ec]
        go_roundw
        case rel => exact ⟨k + 1, _, _, by omega, rfl, by go_num, hbl.trans hb2, hv, HS.out⟩
        case measure => simp [intOf]; omega
    · have hg : decide ((k : Int) < (n : Int)) = false := by simp; omega
      have hg2 : decide ((k : Int) < (n2 : Int)) = false := by simp; omega
      have HD : Hid _ := hi.done (by rw [h.len]; omega) (by rw [h2.len]; omega)
      have HZ : Hid (zs.length = k) := hi.len
      have hbs := hbl.size
      clear hi
      go_wp2_with (first | (at_builtin; refine wp_app1 rfl _ _ rfl c _ how rfl rfl (by omega) (by omega) (by rw [HZ.out]; omega) hbs ?_; intro v' w2 hv hb2; obtain ⟨fo, fm, fc, rfl, sf⟩ := hv.sl) | fail)
      refine (rnorm_any w2 fo fm fc _ sf (by rw [← sf.len, List.length_append, HZ.out, List.length_singleton]; omega)).mono ?_
      rintro e w3 ⟨a3, n3, c3, rfl, s3, b3⟩
      go_wp2
      go_ret
      rw [HD.out] at s3
      have b4 := hbl.trans hb2
      exact ⟨a3, n3, c3, rfl, s3, b4.trans (b3.mono b4.size)⟩

/-- Differences, limb by limb, the answer growing: after k rounds. -/
structure RsInv (xs ys zs : List Nat) (k c : Nat) : Prop where
  len : zs.length = k
  bor : c ≤ 1
  dif : val zs + val (ys.take k) = val (xs.take k) + Bp k * c
theorem RsInv.step {xs ys zs : List Nat} {k c x y d : Nat} (h : RsInv xs ys zs k c) (hx : x = xs.getD k 0) (hy : y = ys.getD k 0) (hx2 : x < 4294967296) (hy2 : y < 4294967296) (hd : d + y + c = 4294967296 + x) :
    RsInv xs ys (zs ++ [d % 4294967296]) (k + 1) (1 - d / 4294967296) := by
  have hc := h.bor
  refine ⟨by rw [List.length_append, h.len]; rfl, by omega, ?_⟩
  rw [val_snoc, val_take_succ' xs, val_take_succ' ys, Bp_succ, h.len, ← hx, ← hy]
  have e : d % 4294967296 + y + c = x + 4294967296 * (1 - d / 4294967296) := by omega
  have e2 := congrArg (Bp k * ·) e
  simp only [Nat.mul_add] at e2
  rw [Nat.mul_assoc, Nat.mul_left_comm 4294967296 (Bp k)]
  have := h.dif
  omega
theorem RsInv.done {xs ys zs : List Nat} {k c : Nat} (h : RsInv xs ys zs k c) (hz : Lim zs) (hx : xs.length = k) (hxl : Lim xs) (hle : val ys ≤ val xs) : val zs = val xs - val ys := by
  have hs := h.dif
  have hv := val_lt hz
  have hv2 := val_lt hxl
  rw [List.take_of_length_le (l := xs) (by omega)] at hs
  have hy := val_take_drop' ys k
  rw [hx] at hv2
  rw [h.len] at hv
  have hc := h.bor
  have h0 : Bp k * val (ys.drop k) = 0 := by
    rcases Nat.eq_zero_or_pos (val (ys.drop k)) with h0 | h0
    · rw [h0, Nat.mul_zero]
    · have := Nat.mul_le_mul_left (Bp k) h0
      omega
  rcases (show c = 0 ∨ c = 1 from by omega) with rfl | rfl <;> omega

set_option maxHeartbeats 1000000 in
theorem rsub_any (w : World) (ao bo : Option Addr) (n cap n2 cap2 : Nat) (xs ys : List Nat) (h : Sl w.heap.size w ao n cap xs) (h2 : Sl w.heap.size w bo n2 cap2 ys) (hlen : n ≤ 549755813888) (hlen2 : n2 ≤ 549755813888) (hle : val ys ≤ val xs) :
    Calls Tryz.prog 90 #[.slice ao n cap, .slice bo n2 cap2] w fun e w' => ∃ ro rn rc, e = .returned (.tuple #[.slice ro rn rc, .bool true]) ∧ Sl w'.heap.size w' ro rn rc (toL (val xs - val ys)) ∧ Below w.heap.size w w' := by
  have hcm : 0 ≤ cmpN (val xs) (val ys) := by unfold cmpN; split <;> (try split) <;> omega
  go_enter Tryz.func90, Tryz.ntmps90
  go_wp2_with fail
  refine (rcmp_any w ao bo n cap n2 cap2 _ xs ys h h2 (by omega) (by omega)).mono ?_
  rintro e w' ⟨rfl, rfl⟩
  generalize cmpN (val xs) (val ys) = cm at hcm
  have HL : Hid _ := hle
  clear hle
  go_wp2
  go_loopw [6, 7, 8] (fun v cv iv wr => ∃ k c zs, k ≤ n ∧ cv = .int .u64 ((c : Nat) : Int) ∧ iv = .int .i64 ((k : Nat) : Int) ∧ Below w.heap.size w wr ∧ Ow w.heap.size wr v zs ∧ RsInv xs ys zs k c) (fun _ _ iv _ => n - (intOf iv).toNat)
  case atStart => exact ⟨0, 0, [], by omega, rfl, rfl, (Below.refl _ _).alloc (Nat.le_refl _) _, Ow.start w, ⟨rfl, by omega, by simp [val]⟩⟩
  case round =>
    obtain ⟨k, c, zs, hk, rfl, rfl, hbl, how, hi⟩ := hrel
    have hc1 := hi.bor
    have hbs := hbl.size
    have t1' : Sl wr.heap.size wr ao n cap xs := (h.below hbl).mono hbs
    have t2' : Sl wr.heap.size wr bo n2 cap2 ys := (h2.below hbl).mono hbs
    have HZ : Hid (zs.length = k) := hi.len
    by_cases hlt : k < n
    · have cx := fun w (hs : Sl w.heap.size w ao n cap xs) => limb_any w ao n cap _ k xs hs
      have cy := fun w (hs : Sl w.heap.size w bo n2 cap2 ys) => limb_any w bo n2 cap2 _ k ys hs
      obtain ⟨x, hx⟩ : ∃ x, x = xs.getD k 0 := ⟨_, rfl⟩
      obtain ⟨y, hy⟩ : ∃ y, y = ys.getD k 0 := ⟨_, rfl⟩
      have hx2 : x < 4294967296 := by rw [hx]; exact h.lim.getD k
      have hy2 : y < 4294967296 := by rw [hy]; exact h2.lim.getD k
      obtain ⟨d, hd⟩ : ∃ d, d + y + c = 4294967296 + x := ⟨4294967296 + x - y - c, by omega⟩
      have HS : Hid _ := hi.step hx hy hx2 hy2 hd
      rw [← hx] at cx
      rw [← hy] at cy
      have CX : Hid _ := cx
      have CY : Hid _ := cy
      have HD : Hid _ := hd
      clear hx hy cx cy hd
      go_wp2_with fail
      refine (CX.out _ t1').mono ?_
      rintro e w' ⟨rfl, rfl⟩
      go_wp2_with fail
      refine (CY.out _ t2').mono ?_
      rintro e w' ⟨rfl, rfl⟩
      go_wp2_with (at_builtin; refine wp_app1 rfl _ _ rfl (d % 4294967296) _ how rfl rfl (by have := HD.out; omega) (by omega) (by rw [HZ.out]; omega) hbs ?_; intro v' w2 hv hb2)
      have ec : (1 : Int) - (4294967296 + (x : Int) - y - c) / 4294967296 = ((1 - d / 4294967296 : Nat) : Int) := by have := HD.out; omega
      rw [ec]
      go_roundw
      case rel => exact ⟨k + 1, _, _, by omega, rfl, by go_num, hbl.trans hb2, hv, HS.out⟩
      case measure => simp [intOf]; omega
    · obtain rfl : k = n := by omega
      have HD : Hid _ := hi.done how.lim h.len h.lim HL.out
      obtain ⟨fo, fm, fc, rfl, sf⟩ := how.sl
      go_wp2_with fail
      refine (rnorm_any wr fo fm fc _ sf (by rw [← sf.len, HZ.out]; omega)).mono ?_
      rintro e w3 ⟨a3, n3, c3, rfl, s3, b3⟩
      go_wp2
      go_ret2
      rw [HD.out] at s3
      exact ⟨a3, n3, c3, rfl, s3, hbl.trans (b3.mono hbl.size)⟩

end Go.Proofs.YtbobhhnhlgdkiaaGreat

/- penumbraref01: Mul. -/
namespace Go.Proofs.YtbobhhnhlgdkiaaGreat
open Go.RowKit M
set_option maxRecDepth 100000

theorem M.PrInv.done' {s s' ys : List Nat} {q k c : Nat} (h : PrInv s s' ys q k c) (hk : s.length = k) (hy : ys.length = k) : val s' + Bp k * c = val s + q * val ys := by
  subst hk; exact h.done hy

set_option maxHeartbeats 2000000 in
theorem rmul_any (w : World) (ao bo : Option Addr) (n cap m bcap : Nat) (xs ys : List Nat) (h : Sl w.heap.size w ao n cap xs) (h2 : Sl w.heap.size w bo m bcap ys) (hlen : n ≤ 274877906944) (hlen2 : m ≤ 274877906944) :
    Calls Tryz.prog 87 #[.slice ao n cap, .slice bo m bcap] w (Gives w (toL (val xs * val ys))) := by
  have hmk := fun u => make_run (n + m + 1) (by omega) u
  rw [show ((n + m + 1 : Nat) : Int) = (n : Int) + m + 1 from by omega] at hmk
  obtain ⟨w2, hw2, hbl, how, hz0⟩ := fresh w (n + m + 1)
  go_enter Tryz.func87, Tryz.ntmps87
  go_wp2
  rw [← hw2]
  have u1 := h.below hbl
  have u2 := h2.below hbl
  obtain ⟨g, hg⟩ : ∃ g, g = w.heap.size := ⟨_, rfl⟩
  rw [← hg] at how hz0 u1 u2 hbl ⊢
  have HG : Hid (g = w.heap.size) := hg
  have HZ0 : Hid _ := hz0
  clear hmk hg hw2 h h2 hz0
  go_loopw [6] (fun iv wr => ∃ k P, k ≤ n ∧ iv = .int .i64 ((k : Nat) : Int) ∧ Fr g w2 wr ∧ Own wr g P ∧ MulJnv (n + m + 1) P xs ys k) (fun iv _ => n - (intOf iv).toNat)
  case atStart => exact ⟨0, _, Nat.zero_le _, rfl, Fr.refl _ _, how, MulJnv.start _ _ _⟩
  case round =>
    obtain ⟨k, P, hk, rfl, hf, hs, hi⟩ := hrel
    by_cases hlt : k < n
    · obtain ⟨b, p, x, rfl, hx0, hx1, hx2, HX⟩ := (u1.fr hf (Nat.le_refl _)).cell k hlt
      have HP : Hid (P.length = n + m + 1) := hi.len
      have sg0 := Sg.cut hs hi.lim k m (by rw [HP.out]; omega)
      have cells := (u1.fr hf (Nat.le_refl _))
      have HI : Hid _ := hi
      clear hi hs
      go_wp2
      go_loopw [7, 8] (fun cv jv wq => ∃ j c s', j ≤ m ∧ cv = .int .u64 ((c : Nat) : Int) ∧ jv = .int .i64 ((j : Nat) : Int) ∧ Fr g w2 wq ∧ Sg wq g k m (P.take k) s' (P.drop (k + m)) ∧ PrInv ((P.drop k).take m) s' ys x j c) (fun _ jv _ => m - (intOf jv).toNat)
      case atStart => exact ⟨0, 0, _, Nat.zero_le _, rfl, rfl, hf, sg0, PrInv.start _ sg0.lim⟩
      case round =>
        clear hf sg0 cells hx1
        obtain ⟨j, c, s', hj, rfl, rfl, hf, hsg, hpi⟩ := hrel
        have hc1 := hpi.car
        by_cases hlt2 : j < m
        · obtain ⟨b', p', x', e1, hx0', hx1, hx2', HX'⟩ := (u1.fr hf (Nat.le_refl _)).cell k hlt
          simp only [Option.some.injEq, Addr.mk.injEq, and_true] at e1
          obtain ⟨rfl, rfl⟩ := e1
          obtain rfl : x = x' := by rw [HX.out, HX'.out]
          obtain ⟨b2, p2, y, rfl, hy0, hy1, hy2, HY⟩ := (u2.fr hf (Nat.le_refl _)).cell j hlt2
          obtain ⟨z, hz1, hz2, hz3, HZ⟩ := hsg.cell j (by omega)
          have hp0 : (0 : Int) ≤ (x : Int) * (y : Int) := by rw [← Int.natCast_mul]; omega
          have hp1 : (x : Int) * (y : Int) ≤ 18446744065119617025 := by have := mul_bound hx2 hy2; rw [← Int.natCast_mul]; omega
          go_wp2
          go_quiet (fail)
          go_wp2
          have qt : Qt wr (wr.drewN nq) := (Qt.refl _).drewN _
          have ev : ((x : Int) * y + z + c) % 4294967296 = (((c + (x * y + z)) % 4294967296 : Nat) : Int) := by rw [← Int.natCast_mul]; omega
          have ec : ((x : Int) * y + z + c) / 4294967296 = (((c + (x * y + z)) / 4294967296 : Nat) : Int) := by rw [← Int.natCast_mul]; omega
          rw [ev, ec]
          go_roundw
          case rel => exact ⟨j + 1, _, s'.set j ((c + (x * y + z)) % 4294967296), by omega, rfl, by go_num, (hf.qt qt).set _ _, (hsg.qt qt).set (by omega) (by omega),
            hpi.step (by rw [List.length_take, List.length_drop, HP.out]; omega) hx2 (u2.lim.getD j) (by rw [← HZ.out, ← HY.out]) (by rw [← HZ.out, ← HY.out])⟩
          case measure => simp [intOf]; omega
        · obtain rfl : j = m := by omega
          have hsl : ((P.drop k).take j).length = j := by rw [List.length_take, List.length_drop, HP.out]; omega
          have hpd := hpi.done' hsl u2.len
          have hl3 : (P.take k ++ (s' ++ P.drop (k + j))).length = n + j + 1 := by
            rw [List.length_append, List.length_append, List.length_take, List.length_drop, HP.out, hsg.len]; omega
          have hcl := hsg.own.cell (i := k + j) (by omega)
          have hfr := hsg.own.free (k + j)
          have HS : Hid _ := HI.out.step (by rw [u1.len, u2.len]; omega) (by rw [u1.len]; exact hlt) (by rw [hsg.len, u2.len]) hsg.lim hc1 (by rw [u2.len, ← HX.out]; exact hpd)
          generalize (P.take k ++ (s' ++ P.drop (k + j))).getD (k + j) 0 = old at hcl
          clear hsl hpi hpd hl3
          go_wp2
          go_roundw
          case rel =>
            refine ⟨k + 1, _, by omega, by go_num, hf.set _ _, hsg.own.set (k + j) c, ?_⟩
            have := HS.out
            rwa [u2.len] at this
          case measure => simp [intOf]; omega
    · obtain rfl : k = n := by omega
      have HP : Hid (P.length = k + m + 1) := hi.len
      have HD : Hid (val P = val xs * val ys) := by
        have hl := u1.len
        rw [← hl] at hi
        exact hi.done (by rw [u1.len, u2.len]; omega)
      have hslp : Sl wr.heap.size wr (some ⟨g, 0, none⟩) (k + m + 1) (k + m + 1) P := Sl.own hs hi.lim (by rw [hf.size, HZ0.out]; omega) _ _ hi.len (Nat.le_refl _)
      go_wp2_with fail
      refine (rnorm_any wr _ _ _ P hslp (by omega)).mono ?_
      rintro e w3 ⟨a3, n3, c3, rfl, s3, b3⟩
      go_wp2
      go_ret
      rw [HD.out] at s3
      have hg := HG.out
      refine ⟨a3, n3, c3, rfl, s3, ?_⟩
      have hbw := hbl.trans (hf.below (Nat.le_refl _))
      rw [hg] at hbw
      exact hbw.trans (b3.mono hbw.size)

end Go.Proofs.YtbobhhnhlgdkiaaGreat

/- penumbraref01: Double, Shl, at. -/
namespace Go.Proofs.YtbobhhnhlgdkiaaGreat
open Go.RowKit M
set_option maxRecDepth 100000

/-- Doubling, limb by limb, the answer growing: after k rounds. -/
structure RdInv (xs zs : List Nat) (c0 k c : Nat) : Prop where
  len : zs.length = k
  car : c ≤ 1
  sum : val zs + Bp k * c = 2 * val (xs.take k) + c0
theorem RdInv.step {xs zs : List Nat} {c0 k c x : Nat} (h : RdInv xs zs c0 k c) (hx : x = xs.getD k 0) (hx2 : x < 4294967296) :
    RdInv xs (zs ++ [(2 * x + c) % 4294967296]) c0 (k + 1) ((2 * x + c) / 4294967296) := by
  have hc := h.car
  refine ⟨by rw [List.length_append, h.len]; rfl, by omega, ?_⟩
  rw [val_snoc, val_take_succ' xs, Bp_succ, h.len, ← hx]
  have e : (2 * x + c) % 4294967296 + 4294967296 * ((2 * x + c) / 4294967296) = x + x + c := by omega
  have e2 := congrArg (Bp k * ·) e
  simp only [Nat.mul_add] at e2
  rw [Nat.mul_assoc, Nat.mul_left_comm 4294967296 (Bp k)]
  have := h.sum
  omega
theorem RdInv.done {xs zs : List Nat} {c0 k c : Nat} (h : RdInv xs zs c0 k c) (hx : xs.length ≤ k) : val (zs ++ [c]) = 2 * val xs + c0 := by
  have hs := h.sum
  rw [List.take_of_length_le hx] at hs
  rw [val_snoc, h.len, hs]

set_option maxHeartbeats 1000000 in
theorem double_any (w : World) (ao : Option Addr) (n cap : Nat) (xs : List Nat) (h : Sl w.heap.size w ao n cap xs) (hlen : n ≤ 1099511627770) :
    Calls Tryz.prog 97 #[.slice ao n cap, .bool false] w (Gives w (toL (2 * val xs))) := by
  go_enter Tryz.func97, Tryz.ntmps97
  go_wp2
  go_loopw [5, 6, 7] (fun v cv iv wr => ∃ k c zs, k ≤ n ∧ cv = .int .u64 ((c : Nat) : Int) ∧ iv = .int .i64 ((k : Nat) : Int) ∧ Below w.heap.size w wr ∧ Ow w.heap.size wr v zs ∧ RdInv xs zs 0 k c) (fun _ _ iv _ => n - (intOf iv).toNat)
  case atStart => exact ⟨0, 0, [], by omega, rfl, rfl, (Below.refl _ _).alloc (Nat.le_refl _) _, Ow.start w, ⟨rfl, by omega, by simp [val]⟩⟩
  case round =>
    obtain ⟨k, c, zs, hk, rfl, rfl, hbl, how, hi⟩ := hrel
    have hc1 := hi.car
    have hbs := hbl.size
    have HZ : Hid (zs.length = k) := hi.len
    by_cases hlt : k < n
    · obtain ⟨b, p, x, rfl, hx0, hx1, hx2, HX⟩ := (h.below hbl).cell k hlt
      have HS : Hid _ := hi.step HX.out hx2
      go_wp2_with (at_builtin; refine wp_app1 rfl _ _ rfl ((2 * x + c) % 4294967296) _ how rfl rfl (by omega) (by omega) (by rw [HZ.out]; omega) hbs ?_; intro v' w2 hv hb2)
      have ec : ((2 : Int) * x + c) / 4294967296 = (((2 * x + c) / 4294967296 : Nat) : Int) := by omega
      rw [ec]
      go_roundw
      case rel => exact ⟨k + 1, _, _, by omega, rfl, by go_num, hbl.trans hb2, hv, HS.out⟩
      case measure => simp [intOf]; omega
    · obtain rfl : k = n := by omega
      have HD : Hid _ := hi.done (by rw [h.len]; exact Nat.le_refl _)
      clear hi
      go_wp2_with (first | (at_builtin; refine wp_app1 rfl _ _ rfl c _ how rfl rfl (by omega) (by omega) (by rw [HZ.out]; omega) hbs ?_; intro v' w2 hv hb2; obtain ⟨fo, fm, fc, rfl, sf⟩ := hv.sl) | fail)
      refine (rnorm_any w2 fo fm fc _ sf (by rw [← sf.len, List.length_append, HZ.out, List.length_singleton]; omega)).mono ?_
      rintro e w3 ⟨a3, n3, c3, rfl, s3, b3⟩
      go_wp2
      go_ret
      rw [HD.out] at s3
      have b4 := hbl.trans hb2
      exact ⟨a3, n3, c3, rfl, s3, b4.trans (b3.mono b4.size)⟩

/-- A row of zeros that the call itself made, as a slice that is appended to. -/
theorem Ow.zeros (w : World) (k : Nat) (hk : k ≤ 1099511627776) : Ow w.heap.size (w.alloc (.cells (u32s (List.replicate k 0)) 86)) (.slice (some ⟨w.heap.size, 0, none⟩) k k) (List.replicate k 0) := by
  refine ⟨Lim.rep k, ?_⟩
  have := World.ownsRow_lit (base := w.heap.size) (e := 86) (size := 1) w (u32s (List.replicate k 0)) k (Nat.le_refl _) (by unfold maxLen; omega) (by rw [u32s_size]; simp)
  rw [List.length_replicate]
  simpa [u32s] using this

end Go.Proofs.YtbobhhnhlgdkiaaGreat

/- penumbraref01: at, Half. -/
namespace Go.Proofs.YtbobhhnhlgdkiaaGreat
open Go.RowKit M
set_option maxRecDepth 100000

/-- 'append(out, x)' as one step of a region that draws its order. -/
theorem step_app1 {ops : Array Oper} {o : Oper} {a : Act} {w : World} {K : Act → World → Prop} {Q : Exit → Act → World → Prop} {E : Prop}
    (hg : o.guard = none) (s x : Operand) (hop : o.op = Op.call { callee := Callee.builtin Builtin.append, args := #[s, x], argTypes := #[22, 22] })
    {B : Nat} {v : Value} {zs : List Nat} (y : Nat) (Y : Int) (ad : Addr) (hown : Ow B w v zs) (hs : a.eval s = v) (hx : a.eval x = .slice (some ad) 1 1) (hc : w.cell? ad = some (.int .u32 Y)) (hY : Y = (y : Int))
    (hy : y < 4294967296) (hlen : zs.length ≤ 1099511627776) (hB : B ≤ w.heap.size)
    (hK : ∀ v' w', Ow B w' v' (zs ++ [y]) → Below B w w' → K (a.put o.dst v') w') :
    if Region.wanted o (yielded ops a.tmps) = true then Oper.wp Tryz.prog o a w K Q else E := by
  subst hY
  have hw : Region.wanted o (yielded ops a.tmps) = true := by simp [Region.wanted, hg]
  rw [if_pos hw]
  obtain ⟨i0, hi, hz0, hz1, hz2⟩ := info_parts info38
  refine wp_append_own _ s x 22 hop B 86 i0 (.int .u32 0) 1 4 Tryz.underlying22 hi hz0 hz1 hz2 rfl (by decide) v zs.length _ hs hown.own ad 1 1 [.int .u32 (y : Int)] hx rfl ?_ ?_ ?_ ?_ hB ?_
  · intro j u hj
    match j, hj with
    | 0, hj => simp at hj; subst hj; simpa [Addr.add] using hc
  · intro u hu; simp at hu; subst hu; rfl
  · unfold maxLen; omega
  · omega
  · intro v' w' ho' hgr _
    refine hK v' w' ⟨hown.lim.append (Lim.mk hy Lim.nil), ?_⟩ ?_
    · rw [List.length_append, List.map_append]; exact ho'
    · exact (Below.refl B w).grown hgr hB fun k hk => (hown.own.lt k hk).1

theorem Ow.alloc {B : Nat} {w : World} {v : Value} {zs : List Nat} (h : Ow B w v zs) (o : Obj) : Ow B (w.alloc o) v zs := ⟨h.lim, h.own.alloc o⟩

set_option maxHeartbeats 400000 in
theorem at_any (w : World) (x p : Nat) (hx : x < 18446744073709551616) (hp : p ≤ 274877906944) :
    Calls Tryz.prog 98 #[.int .u64 (x : Int), .int .i64 (p : Int)] w fun e w' => ∃ ao n cap zs, e = .returned (.slice ao n cap) ∧ Sl w'.heap.size w' ao n cap zs ∧ n = p + 2 ∧ Hid (val zs = Bp p * x) ∧ Below w.heap.size w w' := by
  have hmk := fun u => make_run p (by omega) u
  have hb0 : Below w.heap.size w (w.alloc (.cells (u32s (List.replicate p 0)) 86)) := (Below.refl _ _).alloc (Nat.le_refl _) _
  have ow0 := Ow.zeros w p (by omega)
  obtain ⟨l1, lb⟩ := lit1 (w.alloc (.cells (u32s (List.replicate p 0)) 86)) 2 [x % 4294967296, x / 4294967296] #[.int .u32 ((x : Int) % 4294967296), .int .u32 ((x : Int) / 4294967296)] (by simp [u32s]) (lim2 (by omega) (by omega)) rfl
  have ow1 := ow0.alloc (.cells #[.int .u32 ((x : Int) % 4294967296), .int .u32 ((x : Int) / 4294967296)] 86)
  have hz : (w.alloc (.cells (u32s (List.replicate p 0)) 86)).heap.size = w.heap.size + 1 := by simp
  rw [hz] at l1
  have hbs := (hb0.trans (lb.mono hb0.size)).size
  go_enter Tryz.func98, Tryz.ntmps98
  go_wp2_with (at_builtin; refine wp_appS rfl _ _ rfl ow1 l1 rfl rfl (by simp; omega) hbs ?_; intro v' w2 hv hb2; obtain ⟨fo, fm, fc, rfl, sf⟩ := hv.sl)
  go_ret
  refine ⟨fo, fm, fc, _, rfl, sf, ?_, ?_, (hb0.trans (lb.mono hb0.size)).trans hb2⟩
  · rw [← sf.len, List.length_append, List.length_replicate]; rfl
  · show val _ = _
    rw [val_append, val_rep, List.length_replicate, Nat.zero_add]
    congr 1
    simp only [val_cons, val_nil]
    omega

/-- Halving, limb by limb, the answer growing: after k rounds. -/
structure RhInv (xs zs : List Nat) (k : Nat) : Prop where
  len : zs.length = k
  sum : 2 * val zs + xs.getD 0 0 % 2 = val (xs.take k) + Bp k * (xs.getD k 0 % 2)
theorem RhInv.step {xs zs : List Nat} {k x y : Nat} (h : RhInv xs zs k) (hx : x = xs.getD k 0) (hy : y = xs.getD (k + 1) 0) : RhInv xs (zs ++ [(y % 2 * 4294967296 + x) / 2]) (k + 1) := by
  refine ⟨by rw [List.length_append, h.len]; rfl, ?_⟩
  rw [val_snoc, val_take_succ' xs, Bp_succ, h.len, ← hy, ← hx]
  have hs := h.sum
  rw [← hx] at hs
  have e : 2 * ((y % 2 * 4294967296 + x) / 2) + x % 2 = x + 4294967296 * (y % 2) := by omega
  have e2 := congrArg (Bp k * ·) e
  simp only [Nat.mul_add] at e2
  rw [Nat.mul_assoc 4294967296, Nat.mul_left_comm 4294967296 (Bp k), Nat.mul_add 2, Nat.mul_left_comm 2 (Bp k)]
  omega
theorem RhInv.done {xs zs : List Nat} {k : Nat} (h : RhInv xs zs k) (hx : xs.length ≤ k) : val zs = val xs / 2 := by
  have hs := h.sum
  rw [List.take_of_length_le hx, getD_beyond hx] at hs
  omega

set_option maxHeartbeats 1000000 in
theorem half_any (w : World) (ao : Option Addr) (n cap : Nat) (xs : List Nat) (h : Sl w.heap.size w ao n cap xs) (hlen : n ≤ 1099511627770) :
    Calls Tryz.prog 99 #[.slice ao n cap] w (Gives w (toL (val xs / 2))) := by
  go_enter Tryz.func99, Tryz.ntmps99
  go_wp2
  go_loopw [3, 4] (fun v iv wr => ∃ k zs, k ≤ n ∧ iv = .int .i64 ((k : Nat) : Int) ∧ Below w.heap.size w wr ∧ Ow w.heap.size wr v zs ∧ RhInv xs zs k) (fun _ iv _ => n - (intOf iv).toNat)
  case atStart => exact ⟨0, [], by omega, rfl, (Below.refl _ _).alloc (Nat.le_refl _) _, Ow.start w, ⟨rfl, by simp [val, Bp]⟩⟩
  case round =>
    obtain ⟨k, zs, hk, rfl, hbl, how, hi⟩ := hrel
    have hbs := hbl.size
    have HZ : Hid (zs.length = k) := hi.len
    by_cases hlt : k < n
    · obtain ⟨b, p, x, rfl, hx0, hx1, hx2, HX⟩ := (h.below hbl).cell k hlt
      obtain ⟨y, hy⟩ : ∃ y, y = xs.getD (k + 1) 0 := ⟨_, rfl⟩
      have hy2 : y < 4294967296 := by rw [hy]; exact h.lim.getD _
      have cy := fun u (hu : Qt wr u) => limb_any u (some ⟨b, p, none⟩) n cap _ (k + 1) xs (hu.sl (h.below hbl))
      rw [← hy, show ((k + 1 : Nat) : Int) = (k : Int) + 1 from by omega] at cy
      have HS : Hid _ := hi.step HX.out hy
      have CY : Hid _ := cy
      have hoA : Hid (Ow w.heap.size (wr.alloc (.cells #[.int .u32 (((y : Int) % 2 * 4294967296 + (x : Int)) / 2)] 86)).drew _ zs) := (how.alloc (.cells #[.int .u32 (((y : Int) % 2 * 4294967296 + (x : Int)) / 2)] 86)).qt (Qt.refl _).drew
      have hcA : Hid ((wr.alloc (.cells #[.int .u32 (((y : Int) % 2 * 4294967296 + (x : Int)) / 2)] 86)).drew.cell? ⟨wr.heap.size, 0, none⟩ = some (.int .u32 (((y : Int) % 2 * 4294967296 + (x : Int)) / 2))) := by
        show (wr.alloc _).cell? _ = _
        simp
      have hBA : Hid (Below w.heap.size wr (wr.alloc (.cells #[.int .u32 (((y : Int) % 2 * 4294967296 + (x : Int)) / 2)] 86)).drew) := ((Below.refl _ _).alloc hbs _).drew
      have hd1 : (k : Int) < (n : Int) := by omega
      have hw1 : IntKind.i64.wrap ((k : Int) + 1) = (k : Int) + 1 := by simp [IntKind.wrap, IntKind.bits, IntKind.signed]; omega
      have r1 : (y : Int).tmod 2 = (y : Int) % 2 := Int.tmod_eq_emod_of_nonneg (by omega)
      have r2 : IntKind.u64.wrap ((y : Int) % 2 * 4294967296) = (y : Int) % 2 * 4294967296 := by rw [IntKind.wrap_u64]; omega
      have r3 : IntKind.u64.wrap (x : Int) = (x : Int) := by rw [IntKind.wrap_u64]; omega
      have r4 : IntKind.u64.wrap ((y : Int) % 2 * 4294967296 + (x : Int)) = (y : Int) % 2 * 4294967296 + (x : Int) := by rw [IntKind.wrap_u64]; omega
      have r5 : ((y : Int) % 2 * 4294967296 + (x : Int)).tdiv 2 = ((y : Int) % 2 * 4294967296 + (x : Int)) / 2 := Int.tdiv_eq_ediv_of_nonneg (by omega)
      have r6 : IntKind.u64.wrap (((y : Int) % 2 * 4294967296 + (x : Int)) / 2) = ((y : Int) % 2 * 4294967296 + (x : Int)) / 2 := by rw [IntKind.wrap_u64]; omega
      have r7 : IntKind.u32.wrap (((y : Int) % 2 * 4294967296 + (x : Int)) / 2) = ((y : Int) % 2 * 4294967296 + (x : Int)) / 2 := by rw [IntKind.wrap_u32']; omega
      clear cy hy
      go_wp2
      go_region_law (first | (go_simp; go_at_call 102; refine (CY.out _ (Qt.refl _).drew).mono ?_; rintro e w' ⟨rfl, rfl⟩) | (refine step_app1 rfl (.tmp 12) (.tmp 27) rfl ((y % 2 * 4294967296 + x) / 2) _ ⟨wr.heap.size, 0, none⟩ hoA.out rfl rfl hcA.out (by omega) (by omega) (by rw [HZ.out]; omega) (Nat.le_trans hbs hBA.out.size) ?_; intro v' w2 hv hb2))
      all_goals go_wp2
      all_goals go_roundw
      all_goals first | exact ⟨k + 1, _, by omega, by go_num, (hbl.trans (hBA.out)).trans hb2, hv, HS.out⟩ | (simp [intOf]; omega)
    · obtain rfl : k = n := by omega
      have HD : Hid _ := hi.done (by rw [h.len]; exact Nat.le_refl _)
      obtain ⟨fo, fm, fc, rfl, sf⟩ := how.sl
      clear hi
      go_wp2_with fail
      refine (rnorm_any wr fo fm fc _ sf (by rw [← sf.len, HZ.out]; omega)).mono ?_
      rintro e w3 ⟨a3, n3, c3, rfl, s3, b3⟩
      go_wp2
      go_ret
      rw [HD.out] at s3
      exact ⟨a3, n3, c3, rfl, s3, hbl.trans (b3.mono hbl.size)⟩

end Go.Proofs.YtbobhhnhlgdkiaaGreat

/- penumbralaw01.NatAdds: true, whatever the two naturals are (of at most K limbs), and the number. -/
namespace Go.Proofs.YtbobhhnhlgdkiaaGreat
open Go.RowKit M
set_option maxRecDepth 100000

section
variable {w : World} {ao bo : Option Addr} {n cap m bcap : Nat} {xs ys : List Nat}
theorem rsub_k (h : Sl w.heap.size w ao n cap xs) (h2 : Sl w.heap.size w bo m bcap ys) (i : Nat) (hi : n ≤ i) (hb : i ≤ 274877906944) (hm : m ≤ 274877906944) (hle : val ys ≤ val xs) :
    Calls Tryz.prog 90 #[.slice ao n cap, .slice bo m bcap] w (Gt w i (toL (val xs - val ys))) :=
  (rsub_any w ao bo n cap m bcap xs ys h h2 (by omega) (by omega) hle).mono fun _ _ ⟨a, k, c, he, s, b⟩ => ⟨a, k, c, he, s, s.ln (Nat.lt_of_le_of_lt (Nat.sub_le _ _) (h.bd hi)), b⟩
theorem radd_k (h : Sl w.heap.size w ao n cap xs) (h2 : Sl w.heap.size w bo m bcap ys) (i : Nat) (hi : n ≤ i) (hj : m ≤ i) (hb : i ≤ 274877906944) :
    Calls Tryz.prog 88 #[.slice ao n cap, .slice bo m bcap] w (Gv w (i + 1) (toL (val xs + val ys))) :=
  (radd_any w ao bo n cap m bcap xs ys h h2 (by omega) (by omega)).mono fun _ _ ⟨a, k, c, he, s, b⟩ => ⟨a, k, c, he, s, s.ln (bd_add (h.bd hi) (h2.bd hj)), b⟩
theorem rcmp_k (h : Sl w.heap.size w ao n cap xs) (h2 : Sl w.heap.size w bo m bcap ys) (hb : n ≤ 274877906944) (hm : m ≤ 274877906944) :
    Calls Tryz.prog 89 #[.slice ao n cap, .slice bo m bcap] w fun e w' => e = .returned (.int .i64 (cmpN (val xs) (val ys))) ∧ Below w.heap.size w w' :=
  (rcmp_any w ao bo n cap m bcap _ xs ys h h2 (by omega) (by omega)).mono fun _ _ ⟨he, q⟩ => ⟨he, by rw [← q]; exact Below.refl _ _⟩
theorem rnorm_k (h : Sl w.heap.size w ao n cap xs) (i : Nat) (hi : n ≤ i) (hb : i ≤ 274877906944) :
    Calls Tryz.prog 96 #[.slice ao n cap] w (Gv w i (toL (val xs))) :=
  (rnorm_any w ao n cap xs h (by omega)).mono fun _ _ ⟨a, k, c, he, s, b⟩ => ⟨a, k, c, he, s, s.ln (h.bd hi), b⟩
theorem two_limbs {x : Nat} (hx : x < 18446744073709551616) : x < Bp 2 := by rw [Bp_succ, Bp_succ, Bp_zero]; omega
theorem rof_k {x : Nat} (hx : x < 18446744073709551616) : Calls Tryz.prog 83 #[.int .u64 (x : Int)] w (Gv w 2 (toL x)) :=
  (rof_any w x hx).mono fun _ _ ⟨a, k, c, he, s, b⟩ => ⟨a, k, c, he, s, s.ln (two_limbs hx), b⟩
end

end Go.Proofs.YtbobhhnhlgdkiaaGreat

/- penumbralaw01.NatMuls: true, whatever the two naturals are (of at most K limbs), and the number. -/
namespace Go.Proofs.YtbobhhnhlgdkiaaGreat
open Go.RowKit M
set_option maxRecDepth 100000

section
variable {w : World} {ao bo : Option Addr} {n cap m bcap : Nat} {xs ys : List Nat}
theorem rmul_k (h : Sl w.heap.size w ao n cap xs) (h2 : Sl w.heap.size w bo m bcap ys) (i j : Nat) (hi : n ≤ i) (hj : m ≤ j) (hb : i ≤ 274877906944) (hc : j ≤ 274877906944) :
    Calls Tryz.prog 87 #[.slice ao n cap, .slice bo m bcap] w (Gv w (i + j) (toL (val xs * val ys))) :=
  (rmul_any w ao bo n cap m bcap xs ys h h2 (by omega) (by omega)).mono fun _ _ ⟨a, k, c, he, s, b⟩ => ⟨a, k, c, he, s, s.ln (bd_mul (h.bd hi) (h2.bd hj)), b⟩
end
end Go.Proofs.YtbobhhnhlgdkiaaGreat

/- penumbraref01: DivMod. -/
namespace Go.Proofs.YtbobhhnhlgdkiaaGreat
open Go.RowKit M
set_option maxRecDepth 100000

/-- What the last loop leaves. -/
def Dm (w : World) (A B : Nat) (e : Ending) (w' : World) : Prop := ∃ qo qn qc ro rn rc, e = .returned (.tuple #[.slice qo qn qc, .slice ro rn rc, .bool true]) ∧
      Sl w'.heap.size w' qo qn qc (toL (A / B)) ∧ Sl w'.heap.size w' ro rn rc (toL (A % B)) ∧ Below w.heap.size w w'

/-- The doubled divisor, while its last limb is not great. -/
structure P1 (A B n t : Nat) : Prop where
  lo : Bp n ≤ B * 2 ^ t
  hi : B * 2 ^ t < Bp (n + 1)
theorem P1.len {A B n t : Nat} (h : P1 A B n t) : (toL (B * 2 ^ t)).length = n + 1 := toL_len_eq h.lo h.hi
theorem P1.start {A B n : Nat} (hB : B ≠ 0) (hn : (toL B).length = n + 1) : P1 A B n 0 := by
  have h1 := toL_ge hB
  have h2 := val_lt (Lim_toL B)
  rw [val_toL, hn] at h2
  rw [hn, Nat.add_sub_cancel] at h1
  exact ⟨by simpa using h1, by simpa using h2⟩
theorem P1.next {A B n t : Nat} (h : P1 A B n t) (ht : (toL (B * 2 ^ t)).getD n 0 < 2147483648) : P1 A B n (t + 1) ∧ 2 * (B * 2 ^ t) = B * 2 ^ (t + 1) := by
  have e : 2 * (B * 2 ^ t) = B * 2 ^ (t + 1) := by rw [Nat.pow_succ, Nat.mul_comm (2 ^ t) 2, Nat.mul_left_comm]
  refine ⟨⟨?_, ?_⟩, e⟩
  · rw [← e]; have := h.lo; omega
  · rw [← e, Bp_succ]
    have h1 := top_lt h.len
    have h2 : ((toL (B * 2 ^ t)).getD n 0 + 1) * Bp n ≤ 2147483648 * Bp n := Nat.mul_le_mul_right _ ht
    omega
theorem P1.small {A B n t : Nat} (h : P1 A B n t) (hB : B ≠ 0) (hn : (toL B).length = n + 1) : t < 32 := by
  have h1 := toL_ge hB
  rw [hn, Nat.add_sub_cancel] at h1
  apply Nat.lt_of_not_le; intro hle
  have h2 : 2 ^ 32 ≤ 2 ^ t := Nat.pow_le_pow_right (by omega) hle
  have h3 := Nat.mul_le_mul h1 h2
  have := h.hi
  rw [Bp_succ] at this
  omega

set_option maxHeartbeats 2000000 in
set_option maxRecDepth 100000 in
theorem rdivMod_any (w : World) (ao bo : Option Addr) (n cap n2 cap2 : Nat) (xs ys : List Nat) (h : Sl w.heap.size w ao n cap xs) (h2 : Sl w.heap.size w bo n2 cap2 ys) (hlen : n ≤ 17179869184) (hlen2 : n2 ≤ 17179869184) (h0 : val ys ≠ 0) :
    Calls Tryz.prog 82 #[.slice ao n cap, .slice bo n2 cap2] w (Dm w (val xs) (val ys)) := by
  have hz : (cmpN (val ys) 0 == 0) = false := by rw [cmpN_gt (by omega)]; rfl
  have B0 : Below w.heap.size w w := Below.refl _ _
  go_enter Tryz.func82, Tryz.ntmps82
  go_wp2_with fail
  refine (zero_any w bo n2 cap2 ys h2 (by omega)).mono ?_
  rintro e w' ⟨rfl, rfl⟩
  rw [hz]
  clear hz
  go_wp2_with fail
  refine (rnorm_k h2 n2 (Nat.le_refl _) (by omega)).mono ?_
  rintro e w1 ⟨bo1, bn1, bc1, rfl, sb, lb1, b1⟩
  have B1 := B0.trans (b1.mono B0.size)
  have ha1 := h.later b1
  go_wp2_with fail
  refine (rnorm_k ha1 n (Nat.le_refl _) (by omega)).mono ?_
  rintro e w2 ⟨ao1, an1, ac1, rfl, sa, la1, b2⟩
  have B2 := B1.trans (b2.mono B1.size)
  replace sb := sb.later b2
  clear b1 b2 B0 B1 ha1 h h2
  obtain ⟨m, hm⟩ : ∃ m, (toL (val ys)).length = m + 1 := ⟨(toL (val ys)).length - 1, by have := toL_length_pos h0; omega⟩
  have hbl : bn1 = m + 1 := by rw [← sb.len, hm]
  subst hbl
  have HM : Hid _ := hm
  have H0 : Hid _ := h0
  clear hm h0
  generalize val xs = A at *
  generalize val ys = B at *
  have p10 : P1 A B m 0 := P1.start H0.out HM.out
  have la2 : an1 ≤ n + 1 := by omega
  have sa0 : Sl w2.heap.size w2 ao1 an1 ac1 (toL (A * 2 ^ 0)) := by rw [Nat.pow_zero, Nat.mul_one]; exact sa
  have sb0 : Sl w2.heap.size w2 bo1 (m + 1) bc1 (toL (B * 2 ^ 0)) := by rw [Nat.pow_zero, Nat.mul_one]; exact sb
  have hA : A < Bp n := by have := sa.lt; rw [val_toL] at this; exact Nat.lt_of_lt_of_le this (Bp_mono la1)
  have HA : Hid _ := hA
  clear sa sb la1 hA
  go_wp2
  go_loopg [7, 8, 9] (Bp (m + 1) - B * 2 ^ 0) (fun gk bv lv tv wr => ∃ t bo bc lo ln lc, bv = .slice bo (m + 1) bc ∧ lv = .slice lo ln lc ∧ tv = .int .i64 ((t : Nat) : Int) ∧ Sl wr.heap.size wr bo (m + 1) bc (toL (B * 2 ^ t)) ∧ Sl wr.heap.size wr lo ln lc (toL (A * 2 ^ t)) ∧ P1 A B m t ∧ Below w.heap.size w wr ∧ Hid (gk = Bp (m + 1) - B * 2 ^ t))
  case atStart => exact ⟨0, bo1, bc1, ao1, an1, ac1, rfl, rfl, rfl, sb0, sa0, p10, B2, rfl⟩
  case round =>
    clear sa0 sb0 p10 B2 la2
    obtain ⟨t, bo2, bc2, lo, ln, lc, rfl, rfl, rfl, sb, sl, hp, bw, HK⟩ := hrel
    have ht := hp.small H0.out HM.out
    have hln : ln ≤ n + 1 := by
      refine sl.ln ?_
      rw [Bp_succ, Nat.mul_comm 4294967296]
      exact Nat.lt_of_lt_of_le ((Nat.mul_lt_mul_right (Nat.two_pow_pos t)).2 HA.out) (Nat.mul_le_mul_left _ (by have := pow31 ht; omega))
    obtain ⟨b, o, x, rfl, hb0, hcell, hx, HX⟩ := sb.cell m (by omega)
    have hcell' : wr.cell? ⟨b, o + (m + 1 - 1), none⟩ = some (.int .u32 (x : Int)) := hcell
    by_cases hx31 : x < 2147483648
    · obtain ⟨hp2, e2⟩ := hp.next (by rw [← HX.out]; exact hx31)
      have E2 : Hid _ := e2
      have hg : decide ((x : Int) < 2147483648) = true := by simp only [decide_eq_true_eq]; omega
      clear e2 hx31
      go_wp2_with fail
      refine (double_any wr _ (m + 1) bc2 _ sb (by omega)).mono ?_
      rintro e w3 ⟨bo3, bn3, bc3, rfl, sb3, b3⟩
      rw [val_toL, E2.out] at sb3
      have hb3 : bn3 = m + 1 := by rw [← sb3.len, hp2.len]
      subst hb3
      have sl3 := sl.later b3
      have bw3 := bw.trans (b3.mono bw.size)
      clear b3 hcell hcell'
      go_wp2_with fail
      refine (double_any w3 lo ln lc _ sl3 (by omega)).mono ?_
      rintro e w4 ⟨lo4, ln4, lc4, rfl, sl4, b4⟩
      rw [val_toL, show 2 * (A * 2 ^ t) = A * 2 ^ (t + 1) from by rw [Nat.pow_succ, Nat.mul_comm (2 ^ t) 2, Nat.mul_left_comm]] at sl4
      have sb4 := sb3.later b4
      have bw4 := bw3.trans (b4.mono bw3.size)
      clear b4
      have HKM : Hid (Bp (m + 1) - B * 2 ^ (t + 1) < gk) := by
        show Bp (m + 1) - B * 2 ^ (t + 1) < gk
        have h1 := HK.out
        have h2 := E2.out
        have h3 := hp2.hi
        have h4 := hp.lo
        have h5 := Bp_pos m
        omega
      go_wp2
      go_roundg (Bp (m + 1) - B * 2 ^ (t + 1))
      case measure => exact HKM.out
      case rel => exact ⟨t + 1, bo3, bc3, lo4, ln4, lc4, rfl, rfl, by go_num, sb4, sl4, hp2, bw4, rfl⟩
    · have hg : decide ((x : Int) < 2147483648) = false := by simp only [decide_eq_false_iff_not]; omega
      have HX31 : Hid _ := hx31
      obtain ⟨sq, lbq⟩ := lit1 wr 0 [] #[] rfl Lim.nil rfl
      have hYB : (toL (B * 2 ^ t)).length = m + 1 := hp.len
      have hY0 : 0 < B * 2 ^ t := Nat.lt_of_lt_of_le (Bp_pos m) hp.lo
      have htl : B * 2 ^ t < (x + 1) * Bp m := by rw [HX.out]; exact top_lt hYB
      have hL0 : A * 2 ^ t < Bp (n + 1) := by
        rw [Bp_succ, Nat.mul_comm 4294967296]
        exact Nat.lt_of_lt_of_le ((Nat.mul_lt_mul_right (Nat.two_pow_pos t)).2 HA.out) (Nat.mul_le_mul_left _ (by have := pow31 ht; omega))
      have hmn : m ≤ 17179869184 := by omega
      have HYB : Hid _ := hYB
      have HY0 : Hid _ := hY0
      have HTL : Hid _ := htl
      have HL0 : Hid _ := hL0
      have sb' := sb.later lbq
      have sl' := sl.later lbq
      have bw' := bw.trans (lbq.mono bw.size)
      rw [show ([] : List Nat) = toL 0 from rfl] at sq
      clear hx31 hYB hY0 htl hL0 lbq sb sl bw hp HK
      go_wp2
      generalize wr.alloc (.cells #[] 86) = w3 at *
      go_loopg [8, 10] (A * 2 ^ t) (fun gk lv qv wq => ∃ L Q lo ln lc qo qn qc, lv = .slice lo ln lc ∧ qv = .slice qo qn qc ∧ Sl wq.heap.size wq lo ln lc (toL L) ∧ Sl wq.heap.size wq qo qn qc (toL Q) ∧ Sl wq.heap.size wq (some ⟨b, o, none⟩) (m + 1) bc2 (toL (B * 2 ^ t)) ∧ Below w.heap.size w wq ∧ Hid (Q * (B * 2 ^ t) + L = A * 2 ^ t) ∧ Hid (gk = L))
      case atStart => exact ⟨A * 2 ^ t, 0, lo, ln, lc, _, 0, 0, rfl, rfl, sl', sq, sb', bw', show 0 * (B * 2 ^ t) + A * 2 ^ t = A * 2 ^ t from by omega, rfl⟩
      case round =>
        clear sq sb' sl' bw' hcell hcell'
        obtain ⟨L, Q, lo, ln, lc, qo, qn, qc, rfl, rfl, sl, sq, sb, bw, HE, HK⟩ := hrel
        have hln2 : ln ≤ n + 1 := sl.ln (by have := HE.out; have := HL0.out; omega)
        have hqn : qn ≤ n + 1 := sq.ln (by
          have h1 := HE.out
          have h2 := HL0.out
          have h3 := Nat.le_mul_of_pos_right Q HY0.out
          omega)
        by_cases hlt : L < B * 2 ^ t
        · have hq : Q = A / B ∧ L = A % B * 2 ^ t := by
            have h1 := HE.out
            have h2 : A * 2 ^ t / (B * 2 ^ t) = A / B := Nat.mul_div_mul_right _ _ (Nat.two_pow_pos t)
            have h3 : A * 2 ^ t % (B * 2 ^ t) = A % B * 2 ^ t := Nat.mul_mod_mul_right _ _ _
            rw [← h2, ← h3, ← h1, Nat.mul_comm Q]
            exact ⟨by rw [Nat.mul_add_div HY0.out, Nat.div_eq_of_lt hlt]; omega, by rw [Nat.mul_add_mod, Nat.mod_eq_of_lt hlt]⟩
          rw [hq.1] at sq
          rw [hq.2] at sl
          have HLT : Hid _ := hlt
          clear hq hlt
          go_wp2_with fail
          refine (rcmp_any _ _ _ _ _ _ _ _ _ _ sl sb (by omega) (by omega)).mono ?_
          rintro e w5 ⟨rfl, rfl⟩
          have hcl : cmpN (val (toL (A % B * 2 ^ t))) (val (toL (B * 2 ^ t))) = -1 := by
            rw [val_toL, val_toL]
            exact cmpN_lt ((Nat.mul_lt_mul_right (Nat.two_pow_pos t)).2 (Nat.mod_lt _ (Nat.pos_of_ne_zero H0.out)))
          rw [hcl]
          clear hcl sb
          go_wp2
          go_loopw [8, 17] (fun lv iv wq => ∃ i lo ln lc, lv = .slice lo ln lc ∧ iv = .int .i64 ((i : Nat) : Int) ∧ i ≤ t ∧ ln ≤ n + 1 ∧ Sl wq.heap.size wq lo ln lc (toL (A % B * 2 ^ (t - i))) ∧ Sl wq.heap.size wq qo qn qc (toL (A / B)) ∧ Below w.heap.size w wq) (fun _ iv _ => t - (intOf iv).toNat)
          case atStart => exact ⟨0, lo, ln, lc, rfl, rfl, Nat.zero_le _, hln2, sl, sq, bw⟩
          case round =>
            clear sl sq bw hln2
            obtain ⟨i, lo, ln, lc, rfl, rfl, hit, hln3, sl, sq, bw⟩ := hrel
            by_cases hi2 : i < t
            · have HV : Hid (A % B * 2 ^ (t - i) / 2 = A % B * 2 ^ (t - (i + 1))) := by
                show A % B * 2 ^ (t - i) / 2 = A % B * 2 ^ (t - (i + 1))
                rw [show t - i = (t - (i + 1)) + 1 from by omega, Nat.pow_succ, ← Nat.mul_assoc, Nat.mul_div_cancel _ (by omega)]
              go_wp2_with fail
              refine (half_any _ lo ln lc _ sl (by omega)).mono ?_
              rintro e w6 ⟨lo6, ln6, lc6, rfl, sl6, b6⟩
              have hln6 : ln6 ≤ n + 1 := by
                refine Nat.le_trans (sl6.ln (i := ln) ?_) hln3
                have := sl.lt
                omega
              rw [val_toL, HV.out] at sl6
              have bw6 := bw.trans (b6.mono bw.size)
              have sq6 := sq.later b6
              clear b6
              go_wp2
              go_roundw
              case rel => exact ⟨i + 1, lo6, ln6, lc6, rfl, by go_num, by omega, hln6, sl6, sq6, bw6⟩
              case measure => simp [intOf]; omega
            · obtain rfl : i = t := by omega
              rw [Nat.sub_self, Nat.pow_zero, Nat.mul_one] at sl
              go_wp2
              go_ret3
              exact ⟨qo, qn, qc, lo, ln, lc, rfl, sq, sl, bw⟩
        · have hcm : 0 ≤ cmpN L (B * 2 ^ t) := by unfold cmpN; split <;> (try split) <;> omega
          obtain ⟨j, hj⟩ : ∃ j, ln = j + 1 := ⟨ln - 1, by have := toL_length_pos (n := L) (by have := HY0.out; omega); have := sl.len; omega⟩
          subst hj
          have hmj : m ≤ j := by
            have h1 := HYB.out
            have h2 := sl.len
            by_cases hh : (toL L).length < (toL (B * 2 ^ t)).length
            · have := toL_len_lt hh; omega
            · omega
          obtain ⟨b1, o1, x1, rfl, hb1, hc1, hx1, HX1⟩ := sl.cell j (by omega)
          have hc1' : wr.cell? ⟨b1, o1 + (j + 1 - 1), none⟩ = some (.int .u32 (x1 : Int)) := hc1
          have HLT : Hid (B * 2 ^ t ≤ L) := Nat.le_of_not_lt hlt
          have HLN : Hid (L ≠ 0) := by show L ≠ 0; have := HY0.out; omega
          clear hlt
          go_wp2_with fail
          refine (rcmp_any _ _ _ _ _ _ _ _ _ _ sl sb (by omega) (by omega)).mono ?_
          rintro e w5 ⟨rfl, rfl⟩
          rw [val_toL, val_toL]
          generalize cmpN L (B * 2 ^ t) = cm at hcm
          have hd0 : 0 ≤ (x1 : Int) / ((x : Int) + 1) := Int.ediv_nonneg (by omega) (by omega)
          have hd1 : (x1 : Int) / ((x : Int) + 1) ≤ 4294967295 := Int.le_trans (Int.ediv_le_self _ (by omega)) (by omega)
          by_cases ht1 : x + 1 ≤ x1
          · have hq1 : ((x1 : Int) / ((x : Int) + 1) == 0) = false := by
              rw [beq_eq_false_iff_ne]
              have : 1 ≤ (x1 : Int) / ((x : Int) + 1) := by rw [Int.le_ediv_iff_mul_le (by omega)]; omega
              omega
            have HS : Hid (Bp (j - m) * (x1 / (x + 1)) * (B * 2 ^ t) ≤ L) := some_le (Nat.div_mul_le_self x1 (x + 1)) (by rw [HX1.out]; exact top_ge sl.len) HTL.out (show m + (j - m) = j from by omega)
            have HT1 : Hid (0 < x1 / (x + 1)) := Nat.div_pos ht1 (by omega)
            have HT2 : Hid (x1 / (x + 1) < 18446744073709551616) := Nat.lt_of_le_of_lt (Nat.div_le_self _ _) (by omega)
            go_wp2_with fail
            clear hd0 hd1 hq1 hc1 hc1'
            have HEQ : Hid ((Q + Bp (j - m) * (x1 / (x + 1))) * (B * 2 ^ t) + (L - Bp (j - m) * (x1 / (x + 1)) * (B * 2 ^ t)) = A * 2 ^ t) := by
              show (Q + Bp (j - m) * (x1 / (x + 1))) * (B * 2 ^ t) + (L - Bp (j - m) * (x1 / (x + 1)) * (B * 2 ^ t)) = A * 2 ^ t
              have h1 := HE.out
              have h2 := HS.out
              rw [Nat.add_mul]; omega
            have HDE : Hid (L - Bp (j - m) * (x1 / (x + 1)) * (B * 2 ^ t) < gk) := by
              show L - Bp (j - m) * (x1 / (x + 1)) * (B * 2 ^ t) < gk
              have h1 := HK.out
              have h2 := HS.out
              have h3 : 0 < Bp (j - m) * (x1 / (x + 1)) * (B * 2 ^ t) := Nat.mul_pos (Nat.mul_pos (Bp_pos _) HT1.out) HY0.out
              omega
            rw [show (x1 : Int) / ((x : Int) + 1) = ((x1 / (x + 1) : Nat) : Int) from by rw [Int.natCast_ediv]; rfl, show (j : Int) + 1 - ((m : Int) + 1) = ((j - m : Nat) : Int) from by omega]
            refine (at_any wr (x1 / (x + 1)) (j - m) HT2.out (by omega)).mono ?_
            rintro e w6 ⟨so, sn, sc, zs, rfl, ss, hsn, HV, b6⟩
            have hsn2 : sn ≤ n + 3 := by omega
            have bw6 := bw.trans (b6.mono bw.size)
            replace sl := sl.later b6
            replace sb := sb.later b6
            replace sq := sq.later b6
            clear hsn b6 bw
            go_wp2_with fail
            refine (radd_k sq ss (n + 3) (by omega) (by omega) (by omega)).mono ?_
            rintro e w7 ⟨qo7, qn7, qc7, rfl, sq7, lq7, b7⟩
            rw [val_toL, HV.out] at sq7
            have bw7 := bw6.trans (b7.mono bw6.size)
            replace sl := sl.later b7
            replace sb := sb.later b7
            replace ss := ss.later b7
            clear b7 bw6
            go_wp2_with fail
            refine (rmul_k ss sb (n + 3) (m + 1) (by omega) (by omega) (by omega) (by omega)).mono ?_
            rintro e w8 ⟨mo8, mn8, mc8, rfl, sm, lm8, b8⟩
            rw [val_toL, HV.out] at sm
            have bw8 := bw7.trans (b8.mono bw7.size)
            replace sl := sl.later b8
            replace sb := sb.later b8
            replace sq7 := sq7.later b8
            clear b8 bw7
            go_wp2_with fail
            refine (rsub_k sl sm (n + 1) (by omega) (by omega) (by omega) (by rw [val_toL, val_toL]; exact HS.out)).mono ?_
            rintro e w9 ⟨lo9, ln9, lc9, rfl, sl9, ll9, b9⟩
            rw [val_toL, val_toL] at sl9
            have bw9 := bw8.trans (b9.mono bw8.size)
            replace sb := sb.later b9
            replace sq7 := sq7.later b9
            clear b9 bw8
            go_wp2
            go_roundg (L - Bp (j - m) * (x1 / (x + 1)) * (B * 2 ^ t))
            case measure => exact HDE.out
            case rel => exact ⟨_, _, lo9, ln9, lc9, qo7, qn7, qc7, rfl, rfl, sl9, sq7, sb, bw9, HEQ.out, rfl⟩
          · have hq0 : (x1 : Int) / ((x : Int) + 1) = 0 := Int.ediv_eq_zero_of_lt (by omega) (by omega)
            clear hd0 hd1
            by_cases hjm : m < j
            · obtain ⟨b2, o2, x0, e2, hb2, hc2, hx0, HX0⟩ := sl.cell (j - 1) (by omega)
              simp only [Option.some.injEq, Addr.mk.injEq, and_true] at e2
              obtain ⟨rfl, rfl⟩ := e2
              have hc2' : wr.cell? ⟨b1, o1 + (j + 1 - 2), none⟩ = some (.int .u32 (x0 : Int)) := hc2
              have hx1p : 1 ≤ x1 := by
                have := toL_last HLN.out
                rw [sl.len, Nat.add_sub_cancel, ← HX1.out] at this
                omega
              have hge2 : (x1 * 4294967296 + x0) * Bp (j - 1) ≤ L := by
                have h1 := sl.len
                rw [show j + 1 = j - 1 + 2 from by omega] at h1
                have h2 := top_ge2 h1
                rw [show j - 1 + 1 = j from by omega, ← HX1.out, ← HX0.out] at h2
                exact h2
              have HS : Hid (Bp (j - m - 1) * ((x1 * 4294967296 + x0) / (x + 1)) * (B * 2 ^ t) ≤ L) := some_le (Nat.div_mul_le_self (x1 * 4294967296 + x0) (x + 1)) hge2 HTL.out (show m + (j - m - 1) = j - 1 from by omega)
              have HT1 : Hid (0 < (x1 * 4294967296 + x0) / (x + 1)) := Nat.div_pos (by omega) (by omega)
              have HT2 : Hid ((x1 * 4294967296 + x0) / (x + 1) < 18446744073709551616) := Nat.lt_of_le_of_lt (Nat.div_le_self _ _) (by omega)
              clear hge2
              obtain ⟨T, hT⟩ : ∃ T : Nat, T = (x1 * 4294967296 + x0) / (x + 1) := ⟨_, rfl⟩
              have hTi : ((x1 : Int) * 4294967296 + (x0 : Int)) / ((x : Int) + 1) = (T : Int) := by rw [hT, Int.natCast_ediv]; congr 1
              have hT1 : 1 ≤ T := by rw [hT]; exact HT1.out
              have hT2 : T < 4294967296 := by rw [hT]; exact (Nat.div_lt_iff_lt_mul (by omega)).2 (by omega)
              rw [← hT] at HS HT1 HT2
              clear hT
              have hTb : ((T : Int) == 0) = false := by rw [beq_eq_false_iff_ne]; omega
              go_wp2
              go_quiet (fail)
              rw [hTi]
              clear hTi hc1 hc1' hc2 hc2' hq0
              replace sl : Sl (wr.drewN nq).heap.size (wr.drewN nq) (some ⟨b1, o1, none⟩) (j + 1) lc (toL L) := ((Qt.refl wr).drewN nq).sl sl
              replace sq : Sl (wr.drewN nq).heap.size (wr.drewN nq) qo qn qc (toL Q) := ((Qt.refl wr).drewN nq).sl sq
              replace sb : Sl (wr.drewN nq).heap.size (wr.drewN nq) (some ⟨b, o, none⟩) (m + 1) bc2 (toL (B * 2 ^ t)) := ((Qt.refl wr).drewN nq).sl sb
              replace bw : Below w.heap.size w (wr.drewN nq) := bw.trans (((Qt.refl wr).drewN nq).below _)
              generalize wr.drewN nq = wr2 at sl sq sb bw ⊢
              go_wp2_with fail
              have HEQ : Hid ((Q + Bp (j - m - 1) * (T)) * (B * 2 ^ t) + (L - Bp (j - m - 1) * (T) * (B * 2 ^ t)) = A * 2 ^ t) := by
                show (Q + Bp (j - m - 1) * (T)) * (B * 2 ^ t) + (L - Bp (j - m - 1) * (T) * (B * 2 ^ t)) = A * 2 ^ t
                have h1 := HE.out
                have h2 := HS.out
                rw [Nat.add_mul]; omega
              have HDE : Hid (L - Bp (j - m - 1) * (T) * (B * 2 ^ t) < gk) := by
                show L - Bp (j - m - 1) * (T) * (B * 2 ^ t) < gk
                have h1 := HK.out
                have h2 := HS.out
                have h3 : 0 < Bp (j - m - 1) * (T) * (B * 2 ^ t) := Nat.mul_pos (Nat.mul_pos (Bp_pos _) HT1.out) HY0.out
                omega
              rw [show (j : Int) + 1 - ((m : Int) + 1) - 1 = ((j - m - 1 : Nat) : Int) from by omega]
              refine (at_any wr2 (T) (j - m - 1) HT2.out (by omega)).mono ?_
              rintro e w6 ⟨so, sn, sc, zs, rfl, ss, hsn, HV, b6⟩
              have hsn2 : sn ≤ n + 3 := by omega
              have bw6 := bw.trans (b6.mono bw.size)
              replace sl := sl.later b6
              replace sb := sb.later b6
              replace sq := sq.later b6
              clear hsn b6 bw
              go_wp2_with fail
              refine (radd_k sq ss (n + 3) (by omega) (by omega) (by omega)).mono ?_
              rintro e w7 ⟨qo7, qn7, qc7, rfl, sq7, lq7, b7⟩
              rw [val_toL, HV.out] at sq7
              have bw7 := bw6.trans (b7.mono bw6.size)
              replace sl := sl.later b7
              replace sb := sb.later b7
              replace ss := ss.later b7
              clear b7 bw6
              go_wp2_with fail
              refine (rmul_k ss sb (n + 3) (m + 1) (by omega) (by omega) (by omega) (by omega)).mono ?_
              rintro e w8 ⟨mo8, mn8, mc8, rfl, sm, lm8, b8⟩
              rw [val_toL, HV.out] at sm
              have bw8 := bw7.trans (b8.mono bw7.size)
              replace sl := sl.later b8
              replace sb := sb.later b8
              replace sq7 := sq7.later b8
              clear b8 bw7
              go_wp2_with fail
              refine (rsub_k sl sm (n + 1) (by omega) (by omega) (by omega) (by rw [val_toL, val_toL]; exact HS.out)).mono ?_
              rintro e w9 ⟨lo9, ln9, lc9, rfl, sl9, ll9, b9⟩
              rw [val_toL, val_toL] at sl9
              have bw9 := bw8.trans (b9.mono bw8.size)
              replace sb := sb.later b9
              replace sq7 := sq7.later b9
              clear b9 bw8
              go_wp2
              go_roundg (L - Bp (j - m - 1) * (T) * (B * 2 ^ t))
              case measure => exact HDE.out
              case rel => exact ⟨_, _, lo9, ln9, lc9, qo7, qn7, qc7, rfl, rfl, sl9, sq7, sb, bw9, HEQ.out, rfl⟩
            · obtain rfl : m = j := by omega
              have HS : Hid (Bp 0 * 1 * (B * 2 ^ t) ≤ L) := by
                show Bp 0 * 1 * (B * 2 ^ t) ≤ L
                rw [Bp_zero, Nat.one_mul]
                have := HLT.out; omega
              have HT1 : Hid (0 < 1) := Nat.one_pos
              have HT2 : Hid (1 < 18446744073709551616) := by show 1 < 18446744073709551616; omega
              go_wp2_with fail
              clear hq0 hc1 hc1'
              have HEQ : Hid ((Q + Bp (0) * (1)) * (B * 2 ^ t) + (L - Bp (0) * (1) * (B * 2 ^ t)) = A * 2 ^ t) := by
                show (Q + Bp (0) * (1)) * (B * 2 ^ t) + (L - Bp (0) * (1) * (B * 2 ^ t)) = A * 2 ^ t
                have h1 := HE.out
                have h2 := HS.out
                rw [Nat.add_mul]; omega
              have HDE : Hid (L - Bp (0) * (1) * (B * 2 ^ t) < gk) := by
                show L - Bp (0) * (1) * (B * 2 ^ t) < gk
                have h1 := HK.out
                have h2 := HS.out
                have h3 : 0 < Bp (0) * (1) * (B * 2 ^ t) := Nat.mul_pos (Nat.mul_pos (Bp_pos _) HT1.out) HY0.out
                omega
              refine (at_any wr (1) (0) HT2.out (by omega)).mono ?_
              rintro e w6 ⟨so, sn, sc, zs, rfl, ss, hsn, HV, b6⟩
              have hsn2 : sn ≤ n + 3 := by omega
              have bw6 := bw.trans (b6.mono bw.size)
              replace sl := sl.later b6
              replace sb := sb.later b6
              replace sq := sq.later b6
              clear hsn b6 bw
              go_wp2_with fail
              refine (radd_k sq ss (n + 3) (by omega) (by omega) (by omega)).mono ?_
              rintro e w7 ⟨qo7, qn7, qc7, rfl, sq7, lq7, b7⟩
              rw [val_toL, HV.out] at sq7
              have bw7 := bw6.trans (b7.mono bw6.size)
              replace sl := sl.later b7
              replace sb := sb.later b7
              replace ss := ss.later b7
              clear b7 bw6
              go_wp2_with fail
              refine (rmul_k ss sb (n + 3) (m + 1) (by omega) (by omega) (by omega) (by omega)).mono ?_
              rintro e w8 ⟨mo8, mn8, mc8, rfl, sm, lm8, b8⟩
              rw [val_toL, HV.out] at sm
              have bw8 := bw7.trans (b8.mono bw7.size)
              replace sl := sl.later b8
              replace sb := sb.later b8
              replace sq7 := sq7.later b8
              clear b8 bw7
              go_wp2_with fail
              refine (rsub_k sl sm (n + 1) (by omega) (by omega) (by omega) (by rw [val_toL, val_toL]; exact HS.out)).mono ?_
              rintro e w9 ⟨lo9, ln9, lc9, rfl, sl9, ll9, b9⟩
              rw [val_toL, val_toL] at sl9
              have bw9 := bw8.trans (b9.mono bw8.size)
              replace sb := sb.later b9
              replace sq7 := sq7.later b9
              clear b9 bw8
              go_wp2
              go_roundg (L - Bp (0) * (1) * (B * 2 ^ t))
              case measure => exact HDE.out
              case rel => exact ⟨_, _, lo9, ln9, lc9, qo7, qn7, qc7, rfl, rfl, sl9, sq7, sb, bw9, HEQ.out, rfl⟩

end Go.Proofs.YtbobhhnhlgdkiaaGreat

/- penumbraref02: Gcd. -/
namespace Go.Proofs.YtbobhhnhlgdkiaaGreat
open Go.RowKit M
set_option maxRecDepth 100000

theorem gcd_step (A B : Nat) : Nat.gcd B (A % B) = Nat.gcd A B := by
  rw [Nat.gcd_comm B, ← Nat.gcd_rec, Nat.gcd_comm]

set_option maxHeartbeats 400000 in
theorem rgcd_any (w : World) (ao bo : Option Addr) (n cap n2 cap2 K : Nat) (xs ys : List Nat) (h : Sl w.heap.size w ao n cap xs) (h2 : Sl w.heap.size w bo n2 cap2 ys) (hn : n ≤ K) (hn2 : n2 ≤ K) (hK : K ≤ 17179869184) :
    Calls Tryz.prog 81 #[.slice ao n cap, .slice bo n2 cap2] w (Gv w K (toL (Nat.gcd (val xs) (val ys)))) := by
  have B0 : Below w.heap.size w w := Below.refl _ _
  obtain ⟨G, hG⟩ : ∃ G, G = Nat.gcd (val xs) (val ys) := ⟨_, rfl⟩
  have HG : Hid (Nat.gcd (val xs) (val ys) = G) := hG.symm
  rw [← hG]
  clear hG
  go_enter Tryz.func81, Tryz.ntmps81
  go_wp2
  go_loopg [0, 1] (val ys) (fun gk av bv wr => ∃ ao n cap xs bo m bcap ys, av = .slice ao n cap ∧ bv = .slice bo m bcap ∧ Sl wr.heap.size wr ao n cap xs ∧ Sl wr.heap.size wr bo m bcap ys ∧ n ≤ K ∧ m ≤ K ∧ Hid (Nat.gcd (val xs) (val ys) = G) ∧ Below w.heap.size w wr ∧ Hid (gk = val ys))
  case atStart => exact ⟨ao, n, cap, xs, bo, n2, cap2, ys, rfl, rfl, h, h2, hn, hn2, HG, B0, rfl⟩
  case round =>
    clear h h2 hn hn2 HG B0
    obtain ⟨ao, n, cap, xs, bo, m, bcap, ys, rfl, rfl, sa, sb, hn, hm, HG, bw, HK⟩ := hrel
    by_cases h0 : val ys = 0
    · have HG2 : Hid (val xs = G) := by show val xs = G; have := HG.out; rwa [h0, Nat.gcd_zero_right] at this
      go_wp2_with fail
      refine (zero_any _ bo m bcap ys sb (by omega)).mono ?_
      rintro e w' ⟨rfl, rfl⟩
      rw [h0, cmpN_eq rfl]
      go_wp2_with fail
      refine (rnorm_k sa K hn (by omega)).mono ?_
      rintro e w2 ⟨ao1, an1, ac1, rfl, sa1, la1, b2⟩
      rw [HG2.out] at sa1
      go_wp2
      go_ret
      exact ⟨ao1, an1, ac1, rfl, sa1, la1, bw.trans (b2.mono bw.size)⟩
    · have hz : (cmpN (val ys) 0 == 0) = false := by rw [cmpN_gt (by omega)]; rfl
      have H0 : Hid _ := h0
      have hml : m ≤ 17179869184 := by omega
      have hnl : n ≤ 17179869184 := by omega
      go_wp2_with fail
      refine (zero_any _ bo m bcap ys sb (by omega)).mono ?_
      rintro e w' ⟨rfl, rfl⟩
      rw [hz]
      clear hz
      go_wp2_with fail
      refine (rdivMod_any _ ao bo n cap m bcap xs ys sa sb hnl hml h0).mono ?_
      rintro e w2 ⟨qo, qn, qc, ro, rn, rc, rfl, sq, sr, b2⟩
      have hrn : rn ≤ K := sr.ln (Nat.lt_trans (Nat.mod_lt _ (Nat.pos_of_ne_zero h0)) (sb.bd hm))
      have hlt : Hid (val (toL (val xs % val ys)) < gk) := by
        show val (toL (val xs % val ys)) < gk
        rw [val_toL, HK.out]; exact Nat.mod_lt _ (Nat.pos_of_ne_zero h0)
      have HG2 : Hid (Nat.gcd (val ys) (val (toL (val xs % val ys))) = G) := by
        show Nat.gcd (val ys) (val (toL (val xs % val ys))) = G
        rw [val_toL, gcd_step]; exact HG.out
      have sb2 := sb.later b2
      have bw2 := bw.trans (b2.mono bw.size)
      clear h0 sq b2 sa sb bw HG
      go_wp2
      go_roundg (val (toL (val xs % val ys)))
      case measure => exact hlt.out
      case rel => exact ⟨bo, m, bcap, ys, ro, rn, rc, _, rfl, rfl, sb2, sr, hm, hrn, HG2, bw2, rfl⟩
end Go.Proofs.YtbobhhnhlgdkiaaGreat

/- penumbraref02: Sqrt. -/
namespace Go.Proofs.YtbobhhnhlgdkiaaGreat
open Go.RowKit M
set_option maxRecDepth 100000

end Go.Proofs.YtbobhhnhlgdkiaaGreat
