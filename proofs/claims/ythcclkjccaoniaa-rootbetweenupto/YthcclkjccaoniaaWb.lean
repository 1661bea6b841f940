/- nat.divLong. -/
import Derived.Test.YthcclkjccaoniaaWa
import Derived.Deep.RegionWith
namespace Go.Proofs.Ythcclkjccaoniaa
open Go.RowKit M

theorem Own.other {w : World} {g : Nat} {zs : List Nat} (h : Own w g zs) (a : Addr) (u : Value) (hg : g ≠ a.block) : Own (w.setCell a u) g zs := by
  unfold Own; rw [heap_setCell_other w a g u hg]; exact h

/-- The dividend, shifted, is not too great. -/
theorem long_low {A B la m d : Nat} (hA : A < Bp la) (hB : Bp (m + 1) * 2 ^ d ≤ B * 2 ^ d) (hm : m + 2 ≤ la) : A * 2 ^ d < Bp (la - (m + 2) + 1) * (B * 2 ^ d) := by
  have h1 : A * 2 ^ d < Bp la * 2 ^ d := (Nat.mul_lt_mul_right (Nat.two_pow_pos d)).2 hA
  have h2 := Nat.mul_le_mul_left (Bp (la - (m + 2) + 1)) hB
  rw [← Nat.mul_assoc, ← Bp_add, show la - (m + 2) + 1 + (m + 1) = la from by omega] at h2
  omega

/-- From w to w' one block has been made, the row s, of n limbs, worth V. -/
structure Made (w w' : World) (n V : Nat) (s : List Nat) : Prop where
  below : Below w.heap.size w w'
  size : w'.heap.size = w.heap.size + 1
  own : Own w' w.heap.size s
  len : s.length = n
  lim : Lim s
  val : M.val s = V

theorem shiftUp_fresh (w : World) (ao : Option Addr) (n cap d : Nat) (xs : List Nat) (h : Sl w.heap.size w ao n cap xs) (hn : n ≤ 1099511627775) (hd : d < 32) :
    Calls Try.prog 52 #[.slice (some ⟨w.heap.size, 0, none⟩) (n + 1) (n + 1), .slice ao n cap, .int .i64 (d : Int)] (w.alloc (.cells (u32s (List.replicate (n + 1) 0)) 32)) fun e w' =>
      ∃ s', e = .returned (.tuple #[]) ∧ Made w w' (n + 1) (val xs * 2 ^ d) s' := by
  have hb0 : Below w.heap.size w (w.alloc (.cells (u32s (List.replicate (n + 1) 0)) 32)) := (Below.refl _ _).alloc (Nat.le_refl _) _
  refine (shiftUp_any _ w.heap.size 0 (n + 1) (n + 1) [] (List.replicate (n + 1) 0) [] ao n cap w.heap.size d xs (Sg.whole (Own.alloc _ _) (Lim.rep _) (by simp)) (h.below hb0) (Nat.le_refl _) (by omega) rfl hd).mono ?_
  rintro e w' ⟨s', rfl, hf, hs, hv⟩
  exact ⟨s', rfl, ⟨hb0.trans (hf.below (Nat.le_refl _)), by rw [hf.size]; simp, hs.all, hs.len, hs.lim, hv⟩⟩

set_option maxHeartbeats 1000000 in
theorem divLong_any (w : World) (ao bo : Option Addr) (la cap m bcap A B : Nat) (h : Sl w.heap.size w ao la cap (toL A)) (h2 : Sl w.heap.size w bo (m + 2) bcap (toL B)) (hla : la ≤ 549755813888) (hm : m + 2 ≤ la) :
    Calls Try.prog 36 #[.slice ao la cap, .slice bo (m + 2) bcap] w fun e w' => ∃ qo qn qc ro rn rc, e = .returned (.tuple #[.slice qo qn qc, .slice ro rn rc]) ∧
      Sl w'.heap.size w' qo qn qc (toL (A / B)) ∧ Sl w'.heap.size w' ro rn rc (toL (A % B)) ∧ Below w.heap.size w w' := by
  obtain ⟨b, o, x, hbo, hb, cx, lx, HX⟩ := h2.cell (m + 1) (by omega)
  subst hbo
  have hB0 : B ≠ 0 := by
    intro h0
    have := h2.len
    rw [h0, toL_zero] at this
    simp at this
  have cx' : w.cell? ⟨b, o + (m + 2 - 1), none⟩ = some (.int .u32 (x : Int)) := cx
  have hx0 : x ≠ 0 := by
    have := toL_last hB0
    rw [h2.len] at this
    rw [HX.out]; exact this
  obtain ⟨g1, g2, _, _⟩ := shift_top (l := nb x) hx0 rfl lx
  obtain ⟨d, hd⟩ : ∃ d, d + nb x = 32 := ⟨32 - nb x, by omega⟩
  have hlz := fun w => lz32_any (x : Int) w (by omega) (by omega)
  rw [Int.toNat_natCast, bitLen_nb x lx, show (32 : Int) - (nb x : Int) = (d : Int) from by omega] at hlz
  have HLZ : Hid _ := hlz
  have HD : Hid (d + nb ((toL B).getD (m + 1) 0) = 32) := by rw [HX.out] at hd; exact hd
  have hd32 : d < 32 := by omega
  have mk1 := fun u => make_run (m + 2 + 1) (by omega) u
  have mk2 := fun u => make_run (la + 1) (by omega) u
  have mk3 := fun u => make_run (la - (m + 2) + 1) (by omega) u
  rw [show ((m + 2 + 1 : Nat) : Int) = (m : Int) + 2 + 1 from by omega] at mk1
  rw [show ((la + 1 : Nat) : Int) = (la : Int) + 1 from by omega] at mk2
  rw [show ((la - (m + 2) + 1 : Nat) : Int) = (la : Int) - ((m : Int) + 2) + 1 from by omega] at mk3
  clear hlz g1 g2 hd hx0
  go_enter Try.func36, Try.ntmps36
  go_wp2_with (go_at_call 51; refine (HLZ.out _).mono ?_; rintro e w' ⟨rfl, rfl⟩)
  refine (shiftUp_fresh w _ (m + 2) bcap d _ h2 (by omega) hd32).mono ?_
  rintro e w1 ⟨s1, rfl, m1⟩
  have h1 : Sl w1.heap.size w1 ao la cap (toL A) := h.later m1.below
  go_wp2_with fail
  refine (shiftUp_fresh w1 ao la cap d _ h1 (by omega) hd32).mono ?_
  rintro e w2 ⟨s2, rfl, m2⟩
  have hfr := fresh w2 (la - (m + 2) + 1)
  obtain ⟨w3, hw3, hbl3, how3, hz3⟩ := hfr
  have HZ3 : Hid _ := hz3
  clear hz3 mk1 mk2
  go_wp2
  rw [← hw3]
  obtain ⟨dv1, dv2, dv3, dv4⟩ := divisor_shift hB0 h2.len HD.out m1.len m1.lim (by rw [m1.val, val_toL])
  have hV0 : 0 < B * 2 ^ d := Nat.mul_pos (by omega) (Nat.two_pow_pos d)
  have LI : LongInv la (m + 2) (A * 2 ^ d) (B * 2 ^ d) s2 (List.replicate (la - (m + 2) + 1) 0) (la - (m + 2) + 1) :=
    LongInv.start m2.len m2.lim (by rw [m2.val, val_toL]) hm (long_low (by have := h.lt; rwa [val_toL] at this) dv4 hm)
  have D3 : Sl w1.heap.size w3 (some ⟨w.heap.size, 0, none⟩) (m + 2) (m + 2 + 1) (s1.take (m + 2)) :=
    (((Sl.own m1.own m1.lim (by rw [m1.size]; omega) (m + 2 + 1) (m + 2 + 1) m1.len (Nat.le_refl _)).take (m + 2) (by omega)).below m2.below).below (hbl3.mono (by rw [m2.size]; omega))
  have O2 : Own w3 w1.heap.size s2 := m2.own.below hbl3 (by rw [m2.size]; omega)
  have BL : Below w.heap.size w w3 := (m1.below.trans (m2.below.mono (by rw [m1.size]; omega))).trans (hbl3.mono (by rw [m2.size, m1.size]; omega))
  have hg1 : w.heap.size < w1.heap.size := by rw [m1.size]; omega
  have hg2 : w1.heap.size < w2.heap.size := by rw [m2.size]; omega
  have W3 : Hid (w3.heap.size = w2.heap.size + 1) := HZ3
  clear mk3 hw3 hbl3 HZ3 m1 m2 h1 h HLZ cx cx' HX h2
  generalize w1.heap.size = gl at *
  generalize w2.heap.size = gq at *
  generalize s1.take (m + 2) = ds at *
  have DV1 : Hid (val ds = B * 2 ^ d) := dv1
  have DV2 : Hid (2147483648 ≤ ds.getD (m + 1) 0) := dv2
  have DV3 : Hid (B * 2 ^ d ≤ Bp (m + 2)) := dv3
  have DV4 : Hid (0 < B * 2 ^ d) := hV0
  clear dv1 dv2 dv3 dv4 hV0 hB0 HD
  go_loopw [11] (fun iv wr => ∃ k L q, k ≤ la - (m + 2) + 1 ∧ iv = .int .i64 (((k : Nat) : Int) - 1) ∧ Below gl w3 wr ∧ Hid (wr.heap.size = gq + 1) ∧ Own wr gl L ∧ Own wr gq q ∧ LongInv la (m + 2) (A * 2 ^ d) (B * 2 ^ d) L q k) (fun iv _ => (intOf iv + 1).toNat)
  case atStart => exact ⟨la - (m + 2) + 1, s2, _, Nat.le_refl _, by go_num, Below.refl _ _, W3, O2, how3, LI⟩
  case round =>
    obtain ⟨k, L, q, hk, rfl, hbl, hsz, hoL, hoq, hi⟩ := hrel
    by_cases h0 : k = 0
    · subst h0
      obtain ⟨f1, f2⟩ := hi.done DV3.out hm
      rw [Nat.mul_div_mul_right _ _ (Nat.two_pow_pos d)] at f1
      rw [Nat.mul_mod_mul_right] at f2
      have F1 : Hid _ := f1
      have F2 : Hid _ := f2
      clear f1 f2
      have sq : Sl (gq + 1) wr (some ⟨gq, 0, none⟩) (la - (m + 2) + 1) (la - (m + 2) + 1) q := Sl.own hoq hi.qlim (by omega) _ _ hi.qlen (Nat.le_refl _)
      have sl : Sl (gq + 1) wr (some ⟨gl, 0, none⟩) (m + 2) (la + 1) (L.take (m + 2)) := (Sl.own hoL hi.lim (by omega) (la + 1) (la + 1) hi.len (Nat.le_refl _)).take (m + 2) (by omega)
      have hq1 : ∀ u, Qt wr u → Sl (gq + 1) u (some ⟨gq, 0, none⟩) (la - (m + 2) + 1) (la - (m + 2) + 1) q := fun u hu => hu.sl sq
      have hl1 : ∀ u, Qt wr u → Sl u.heap.size u (some ⟨gl, 0, none⟩) (m + 2) (la + 1) (L.take (m + 2)) := fun u hu => by rw [hu.size, hsz.out]; exact hu.sl sl
      have HQ1 : Hid _ := hq1
      have HL1 : Hid _ := hl1
      clear hq1 hl1 sq sl
      go_wp2
      go_region_with (first | (go_at_call 34; refine (trimmed_any (gq + 1) _ _ _ _ q (HQ1.out _ (Qt.refl _).drew) (by omega)).mono ?_; rintro e w5 ⟨rfl, a5, n5, c5, rfl, s5, l5⟩) | (go_at_call 54; refine (shiftedDown_any _ _ (m + 2) (la + 1) d _ (HL1.out _ (Qt.refl _).drew) (by omega) hd32).mono ?_; rintro e w6 ⟨a6, n6, c6, rfl, s6, b6⟩))
      all_goals go_wp2
      all_goals go_ret2
      all_goals
        have z6 : wr.drew.heap.size = gq + 1 := hsz.out
        rw [F1.out] at s5
        rw [F2.out, Nat.mul_div_cancel _ (Nat.two_pow_pos d)] at s6
        have b7 := b6
        rw [z6] at b7
        refine ⟨a5, n5, c5, a6, n6, c6, rfl, (s5.below b7).mono (by have := b6.size; omega), s6, ?_⟩
        exact (BL.trans ((hbl.mono (by omega)).drew)).trans (b6.mono (by omega))
    · obtain ⟨j, rfl⟩ : ∃ j, k = j + 1 := ⟨k - 1, by omega⟩
      rw [show ((j + 1 : Nat) : Int) - 1 = (j : Int) from by omega]
      have hLl := hi.len
      have hql := hi.qlen
      have HL : Hid (L.length = la + 1) := hLl
      have HQ : Hid (q.length = la - (m + 2) + 1) := hql
      clear hLl hql
      obtain ⟨sg1, sg2, sg3⟩ := hi.seg DV3.out (by omega)
      have SG3 : Hid (val ((L.drop j).take (m + 2 + 1)) < 4294967296 * val ds) := by rw [DV1.out]; exact sg3
      clear sg1 sg2 sg3
      go_wp2_with fail
      rw [show j + (m + 2) + 1 - j = m + 3 from by omega]
      refine (divStep_any wr gl j m (la + 1 - j) _ _ _ _ (m + 2 + 1) gl ds (Sg.cut hoL hi.lim j (m + 3) (by rw [HL.out]; omega)) (D3.below hbl) (Nat.le_refl _) (by omega) (by omega) DV2.out SG3.out).mono ?_
      rintro e w4 ⟨c, s', rfl, hc, hce, hf4, hs4, hv4⟩
      rw [DV1.out] at hce hv4
      have ST : Hid _ := hi.step (s' := s') DV3.out DV4.out (by omega) hs4.len hs4.lim hv4 (by rw [← hce]; exact hc)
      have HCE : Hid _ := hce
      clear hce hv4
      have oq4 := hoq.fr hf4 (by omega)
      have hcl := oq4.cell (i := j) (by rw [HQ.out]; omega)
      have hfr4 := oq4.free j
      have HS4 : Hid (w4.heap.size = gq + 1) := by rw [hf4.size]; exact hsz
      generalize q.getD j 0 = old at hcl
      go_wp2
      go_roundw
      case rel =>
        refine ⟨j, _, _, by omega, rfl, (hbl.trans (hf4.below (Nat.le_refl _))).setCell (p := ⟨gq, j, none⟩) (by show gl ≤ gq; omega) _, ?_, hs4.own.other _ _ (by show gl ≠ gq; omega), oq4.set j c, ?_⟩
        · show (w4.setCell _ _).heap.size = _
          rw [← HS4.out]; simp [World.setCell]
        · rw [HCE.out]; exact ST.out
      case measure => simp [intOf]

end Go.Proofs.Ythcclkjccaoniaa
