/- nat.Of, Add, DivMod: what is handed back is new memory. -/
import Derived.Test.YtbobhhnhlgdkiaaGreatJ4
import Derived.Test.YtbobhhnhlgdkiaaGreatJ9
import Derived.Test.YtbobhhnhlgdkiaaGreatJ5
namespace Go.Proofs.YtbobhhnhlgdkiaaGreat
open Go.RowKit M
set_option maxRecDepth 100000

/-- An address that is there is at block B or behind it. -/
structure Nw (B : Nat) (ao : Option Addr) : Prop where
  ge : ∀ a, ao = some a → B ≤ a.block
theorem Nw.none (B : Nat) : Nw B Option.none := ⟨fun _ h => by simp at h⟩
theorem Nw.mono {B B' : Nat} {ao : Option Addr} (h : Nw B ao) (hB : B' ≤ B) : Nw B' ao := ⟨fun a ha => Nat.le_trans hB (h.ge a ha)⟩
/-- An address that is there is this one. -/
structure Trm (ao ao' : Option Addr) : Prop where
  of : ∀ a, ao' = some a → ao = some a
theorem Trm.new {B g o : Nat} {ao' : Option Addr} (h : Trm (some ⟨g, o, Option.none⟩) ao') (hB : B ≤ g) : Nw B ao' :=
  ⟨fun a ha => by have := h.of a ha; simp only [Option.some.injEq] at this; rw [← this]; exact hB⟩

theorem trimmed_n (N : Nat) (w : World) (ao : Option Addr) (n cap : Nat) (xs : List Nat) (h : Sl N w ao n cap xs) (hlen : n ≤ 1099511627776) :
    Calls Tryz.prog 73 #[.slice ao n cap] w fun e w' => w = w' ∧ ∃ ao' n' cap', e = .returned (.slice ao' n' cap') ∧ Sl N w ao' n' cap' (toL (val xs)) ∧ n' ≤ n ∧ Trm ao ao' := by
  refine (trimmed_own N w ao n cap xs h hlen).mono ?_
  rintro e w1 ⟨rfl, rfl⟩
  refine ⟨rfl, ?_⟩
  unfold trimV
  split
  · rename_i h0
    rw [List.eq_nil_of_length_eq_zero h0]
    exact ⟨none, 0, 0, rfl, Sl.nil _ _, Nat.zero_le _, ⟨fun a ha => by simp at ha⟩⟩
  · have hk : (toL (val xs)).length ≤ n := toL_len_le h.lt
    have s := h.take _ hk
    rw [← toL_take h.lim] at s
    exact ⟨ao, _, cap, rfl, s, hk, ⟨fun a ha => ha⟩⟩

/-- What a call leaves that hands back a natural in new memory. -/
def GivesN (w : World) (ys : List Nat) (e : Ending) (w' : World) : Prop :=
  ∃ ao n cap, e = .returned (.slice ao n cap) ∧ Sl w'.heap.size w' ao n cap ys ∧ Nw w.heap.size ao ∧ Below w.heap.size w w'

set_option maxHeartbeats 400000 in
theorem of_n (w : World) (x : Nat) (hx : x < 18446744073709551616) :
    Calls Tryz.prog 51 #[.int .u64 (x : Int)] w (GivesN w (toL x)) := by
  have he : u32s [x % 4294967296, x / 4294967296] = #[.int .u32 ((x : Int) % 4294967296), .int .u32 ((x : Int) / 4294967296)] := by simp [u32s]
  have hv : val [x % 4294967296, x / 4294967296] = x := by simp only [val_cons, val_nil]; omega
  have hb : Below w.heap.size w (w.alloc (.cells (u32s [x % 4294967296, x / 4294967296]) 86)) := (Below.refl _ _).alloc (Nat.le_refl _) _
  have hs : Sl (w.heap.size + 1) (w.alloc (.cells (u32s [x % 4294967296, x / 4294967296]) 86)) (some ⟨w.heap.size, 0, none⟩) 2 2 [x % 4294967296, x / 4294967296] :=
    Sl.own (Own.alloc _ _) (Lim.mk (by omega) (Lim.mk (by omega) Lim.nil)) (by omega) 2 2 rfl (by omega)
  rw [he] at hs hb
  have HV : Hid _ := hv
  clear he hv
  go_enter Tryz.func51, Tryz.ntmps51
  go_wp2_with fail
  refine (trimmed_n _ _ _ 2 2 _ hs (by omega)).mono ?_
  rintro e w1 ⟨rfl, a1, n1, c1, rfl, s1, l1, t1⟩
  rw [HV.out] at s1
  go_wp2
  go_ret
  exact ⟨a1, n1, c1, rfl, by simpa using s1, t1.new (Nat.le_refl _), hb⟩

set_option maxHeartbeats 1000000 in
theorem divByLimb_n (w : World) (ao : Option Addr) (n cap b : Nat) (xs : List Nat) (h : Sl w.heap.size w ao n cap xs) (hlen : n ≤ 1099511627775) (hb0 : 0 < b) (hb1 : b < 4294967296) :
    Calls Tryz.prog 107 #[.slice ao n cap, .int .u32 (b : Int)] w fun e w' => ∃ ro rn rc, e = .returned (.tuple #[.slice ro rn rc, .int .u32 ((val xs % b : Nat) : Int)]) ∧ Sl w'.heap.size w' ro rn rc (toL (val xs / b)) ∧ Nw w.heap.size ro ∧ Below w.heap.size w w' := by
  have hmk := fun u => make_run n (by omega) u
  obtain ⟨w2, hw2, hbl, how, hz0⟩ := fresh w n
  go_enter Tryz.func107, Tryz.ntmps107
  go_wp2
  rw [← hw2]
  have u1 := h.below hbl
  obtain ⟨g, hg⟩ : ∃ g, g = w.heap.size := ⟨_, rfl⟩
  rw [← hg] at how hz0 u1 hbl ⊢
  have HG : Hid (g = w.heap.size) := hg
  clear hmk hg hw2
  go_loopw [7, 8] (fun rv iv wr => ∃ k r q, k ≤ n ∧ rv = .int .u64 ((r : Nat) : Int) ∧ iv = .int .i64 (((k : Nat) : Int) - 1) ∧ Fr g w2 wr ∧ Own wr g q ∧ DivInv n q xs b k r) (fun _ iv _ => (intOf iv + 1).toNat)
  case atStart => exact ⟨n, 0, _, Nat.le_refl _, rfl, rfl, Fr.refl _ _, how, DivInv.start h.len hb0⟩
  case round =>
    obtain ⟨k, r, q, hk, rfl, rfl, hf, hs, hi⟩ := hrel
    have hr := hi.rest
    by_cases h0 : k = 0
    · subst h0
      obtain ⟨e1, e2⟩ := hi.done
      have HD : Hid (val q = val xs / b ∧ r = val xs % b) := ⟨e1, e2⟩
      clear e1 e2
      go_wp2_with fail
      refine (trimmed_n (g + 1) _ _ n n q (Sl.own hs hi.lim (by omega) n n hi.len (Nat.le_refl _)) (by omega)).mono ?_
      rintro e w3 ⟨rfl, a3, n3, c3, rfl, s3, l3, t3⟩
      go_wp2
      go_ret2
      rw [HD.out.1] at s3
      rw [← HD.out.2]
      have hg := HG.out
      refine ⟨a3, n3, c3, rfl, by rw [hf.size, hz0]; exact s3, t3.new (by rw [← hg]; exact Nat.le_refl _), ?_⟩
      rw [← hg]
      exact hbl.trans (hf.below (Nat.le_refl _))
    · obtain ⟨j, rfl⟩ : ∃ j, k = j + 1 := ⟨k - 1, by omega⟩
      rw [show ((j + 1 : Nat) : Int) - 1 = (j : Int) from by omega]
      obtain ⟨b', o, x, rfl, hx0, hx1, hx2, HX⟩ := (u1.fr hf (Nat.le_refl _)).cell j (by omega)
      have hl := hi.len
      have hcl := hs.cell (i := j) (by omega)
      have hfr := hs.free j
      generalize q.getD j 0 = old at hcl
      obtain ⟨st1, st2⟩ := hi.step h.len (by omega) hb1 HX.out hx2
      have hj := or_join (r := r) (x := x) (by omega) hx2
      have ST : Hid _ := st2
      have hq0 : (0 : Int) ≤ ((r * 4294967296 + x : Nat) : Int) / (b : Int) := Int.ediv_nonneg (by omega) (by omega)
      have hq1 : ((r * 4294967296 + x : Nat) : Int) / (b : Int) < 4294967296 := by rw [← Int.natCast_ediv]; omega
      have ev : ((r : Int) * 4294967296 + (x : Int)) / (b : Int) % 4294967296 = (((r * 4294967296 + x) / b : Nat) : Int) := by
        rw [show (r : Int) * 4294967296 + (x : Int) = ((r * 4294967296 + x : Nat) : Int) from by omega, ← Int.natCast_ediv]; omega
      have er : ((r : Int) * 4294967296 + (x : Int)) % (b : Int) = (((r * 4294967296 + x) % b : Nat) : Int) := by
        rw [show (r : Int) * 4294967296 + (x : Int) = ((r * 4294967296 + x : Nat) : Int) from by omega, ← Int.natCast_emod]
      have EV : Hid _ := ev
      have ER : Hid _ := er
      clear st1 st2 hl ev er
      go_wp2
      rw [EV.out, ER.out]
      go_roundw
      case rel => exact ⟨j, _, _, by omega, rfl, rfl, hf.set _ _, hs.set j _, ST.out⟩
      case measure => simp [intOf]

set_option maxHeartbeats 1000000 in
theorem divLong_n (w : World) (ao bo : Option Addr) (la cap m bcap A B : Nat) (h : Sl w.heap.size w ao la cap (toL A)) (h2 : Sl w.heap.size w bo (m + 2) bcap (toL B)) (hla : la ≤ 549755813888) (hm : m + 2 ≤ la) :
    Calls Tryz.prog 108 #[.slice ao la cap, .slice bo (m + 2) bcap] w fun e w' => ∃ qo qn qc ro rn rc, e = .returned (.tuple #[.slice qo qn qc, .slice ro rn rc]) ∧
      Sl w'.heap.size w' qo qn qc (toL (A / B)) ∧ Nw w.heap.size qo ∧ Sl w'.heap.size w' ro rn rc (toL (A % B)) ∧ Below w.heap.size w w' := by
  obtain ⟨b, o, x, hbo, hb, cx, lx, HX⟩ := h2.cell (m + 1) (by omega)
  subst hbo
  have hB0 : B ≠ 0 := by
    intro h0
    have := h2.len
    rw [h0, toL_zero] at this
    simp at this
  have cx' : w.cell? ⟨b, o + (m + 2 - 1), none⟩ = some (.int .u32 (x : Int)) := cx
  have hx0 : x ≠ 0 := by
    have := toL_last hB0
    rw [h2.len] at this
    rw [HX.out]; exact this
  obtain ⟨g1, g2, _, _⟩ := shift_top (l := nb x) hx0 rfl lx
  obtain ⟨d, hd⟩ : ∃ d, d + nb x = 32 := ⟨32 - nb x, by omega⟩
  have hlz := fun w => lz32_any (x : Int) w (by omega) (by omega)
  rw [Int.toNat_natCast, bitLen_nb x lx, show (32 : Int) - (nb x : Int) = (d : Int) from by omega] at hlz
  have HLZ : Hid _ := hlz
  have HD : Hid (d + nb ((toL B).getD (m + 1) 0) = 32) := by rw [HX.out] at hd; exact hd
  have hd32 : d < 32 := by omega
  have mk1 := fun u => make_run (m + 2 + 1) (by omega) u
  have mk2 := fun u => make_run (la + 1) (by omega) u
  have mk3 := fun u => make_run (la - (m + 2) + 1) (by omega) u
  rw [show ((m + 2 + 1 : Nat) : Int) = (m : Int) + 2 + 1 from by omega] at mk1
  rw [show ((la + 1 : Nat) : Int) = (la : Int) + 1 from by omega] at mk2
  rw [show ((la - (m + 2) + 1 : Nat) : Int) = (la : Int) - ((m : Int) + 2) + 1 from by omega] at mk3
  clear hlz g1 g2 hd hx0
  go_enter Tryz.func108, Tryz.ntmps108
  go_wp2_with (go_at_call 112; refine (HLZ.out _).mono ?_; rintro e w' ⟨rfl, rfl⟩)
  refine (shiftUp_fresh w _ (m + 2) bcap d _ h2 (by omega) hd32).mono ?_
  rintro e w1 ⟨s1, rfl, m1⟩
  have h1 : Sl w1.heap.size w1 ao la cap (toL A) := h.later m1.below
  go_wp2_with fail
  refine (shiftUp_fresh w1 ao la cap d _ h1 (by omega) hd32).mono ?_
  rintro e w2 ⟨s2, rfl, m2⟩
  have hfr := fresh w2 (la - (m + 2) + 1)
  obtain ⟨w3, hw3, hbl3, how3, hz3⟩ := hfr
  have HZ3 : Hid _ := hz3
  clear hz3 mk1 mk2
  go_wp2
  rw [← hw3]
  obtain ⟨dv1, dv2, dv3, dv4⟩ := divisor_shift hB0 h2.len HD.out m1.len m1.lim (by rw [m1.val, val_toL])
  have hV0 : 0 < B * 2 ^ d := Nat.mul_pos (by omega) (Nat.two_pow_pos d)
  have LI : LongInv la (m + 2) (A * 2 ^ d) (B * 2 ^ d) s2 (List.replicate (la - (m + 2) + 1) 0) (la - (m + 2) + 1) :=
    LongInv.start m2.len m2.lim (by rw [m2.val, val_toL]) hm (long_low (by have := h.lt; rwa [val_toL] at this) dv4 hm)
  have D3 : Sl w1.heap.size w3 (some ⟨w.heap.size, 0, none⟩) (m + 2) (m + 2 + 1) (s1.take (m + 2)) :=
    (((Sl.own m1.own m1.lim (by rw [m1.size]; omega) (m + 2 + 1) (m + 2 + 1) m1.len (Nat.le_refl _)).take (m + 2) (by omega)).below m2.below).below (hbl3.mono (by rw [m2.size]; omega))
  have O2 : Own w3 w1.heap.size s2 := m2.own.below hbl3 (by rw [m2.size]; omega)
  have BL : Below w.heap.size w w3 := (m1.below.trans (m2.below.mono (by rw [m1.size]; omega))).trans (hbl3.mono (by rw [m2.size, m1.size]; omega))
  have hg1 : w.heap.size < w1.heap.size := by rw [m1.size]; omega
  have hg2 : w1.heap.size < w2.heap.size := by rw [m2.size]; omega
  have W3 : Hid (w3.heap.size = w2.heap.size + 1) := HZ3
  clear mk3 hw3 hbl3 HZ3 m1 m2 h1 h HLZ cx cx' HX h2
  generalize w1.heap.size = gl at *
  generalize w2.heap.size = gq at *
  generalize s1.take (m + 2) = ds at *
  have DV1 : Hid (val ds = B * 2 ^ d) := dv1
  have DV2 : Hid (2147483648 ≤ ds.getD (m + 1) 0) := dv2
  have DV3 : Hid (B * 2 ^ d ≤ Bp (m + 2)) := dv3
  have DV4 : Hid (0 < B * 2 ^ d) := hV0
  clear dv1 dv2 dv3 dv4 hV0 hB0 HD
  go_loopw [11] (fun iv wr => ∃ k L q, k ≤ la - (m + 2) + 1 ∧ iv = .int .i64 (((k : Nat) : Int) - 1) ∧ Below gl w3 wr ∧ Hid (wr.heap.size = gq + 1) ∧ Own wr gl L ∧ Own wr gq q ∧ LongInv la (m + 2) (A * 2 ^ d) (B * 2 ^ d) L q k) (fun iv _ => (intOf iv + 1).toNat)
  case atStart => exact ⟨la - (m + 2) + 1, s2, _, Nat.le_refl _, by go_num, Below.refl _ _, W3, O2, how3, LI⟩
  case round =>
    obtain ⟨k, L, q, hk, rfl, hbl, hsz, hoL, hoq, hi⟩ := hrel
    by_cases h0 : k = 0
    · subst h0
      obtain ⟨f1, f2⟩ := hi.done DV3.out hm
      rw [Nat.mul_div_mul_right _ _ (Nat.two_pow_pos d)] at f1
      rw [Nat.mul_mod_mul_right] at f2
      have F1 : Hid _ := f1
      have F2 : Hid _ := f2
      clear f1 f2
      have sq : Sl (gq + 1) wr (some ⟨gq, 0, none⟩) (la - (m + 2) + 1) (la - (m + 2) + 1) q := Sl.own hoq hi.qlim (by omega) _ _ hi.qlen (Nat.le_refl _)
      have sl : Sl (gq + 1) wr (some ⟨gl, 0, none⟩) (m + 2) (la + 1) (L.take (m + 2)) := (Sl.own hoL hi.lim (by omega) (la + 1) (la + 1) hi.len (Nat.le_refl _)).take (m + 2) (by omega)
      have hq1 : ∀ u, Qt wr u → Sl (gq + 1) u (some ⟨gq, 0, none⟩) (la - (m + 2) + 1) (la - (m + 2) + 1) q := fun u hu => hu.sl sq
      have hl1 : ∀ u, Qt wr u → Sl u.heap.size u (some ⟨gl, 0, none⟩) (m + 2) (la + 1) (L.take (m + 2)) := fun u hu => by rw [hu.size, hsz.out]; exact hu.sl sl
      have HQ1 : Hid _ := hq1
      have HL1 : Hid _ := hl1
      clear hq1 hl1 sq sl
      go_wp2
      go_region_with (first | (go_at_call 73; refine (trimmed_n (gq + 1) _ _ _ _ q (HQ1.out _ (Qt.refl _).drew) (by omega)).mono ?_; rintro e w5 ⟨rfl, a5, n5, c5, rfl, s5, l5, t5⟩) | (go_at_call 117; refine (shiftedDown_any _ _ (m + 2) (la + 1) d _ (HL1.out _ (Qt.refl _).drew) (by omega) hd32).mono ?_; rintro e w6 ⟨a6, n6, c6, rfl, s6, b6⟩))
      all_goals go_wp2
      all_goals go_ret2
      all_goals
        have z6 : wr.drew.heap.size = gq + 1 := hsz.out
        rw [F1.out] at s5
        rw [F2.out, Nat.mul_div_cancel _ (Nat.two_pow_pos d)] at s6
        have b7 := b6
        rw [z6] at b7
        refine ⟨a5, n5, c5, a6, n6, c6, rfl, (s5.below b7).mono (by have := b6.size; omega), t5.new (by omega), s6, ?_⟩
        exact (BL.trans ((hbl.mono (by omega)).drew)).trans (b6.mono (by omega))
    · obtain ⟨j, rfl⟩ : ∃ j, k = j + 1 := ⟨k - 1, by omega⟩
      rw [show ((j + 1 : Nat) : Int) - 1 = (j : Int) from by omega]
      have hLl := hi.len
      have hql := hi.qlen
      have HL : Hid (L.length = la + 1) := hLl
      have HQ : Hid (q.length = la - (m + 2) + 1) := hql
      clear hLl hql
      obtain ⟨sg1, sg2, sg3⟩ := hi.seg DV3.out (by omega)
      have SG3 : Hid (val ((L.drop j).take (m + 2 + 1)) < 4294967296 * val ds) := by rw [DV1.out]; exact sg3
      clear sg1 sg2 sg3
      go_wp2_with fail
      rw [show j + (m + 2) + 1 - j = m + 3 from by omega]
      refine (divStep_any wr gl j m (la + 1 - j) _ _ _ _ (m + 2 + 1) gl ds (Sg.cut hoL hi.lim j (m + 3) (by rw [HL.out]; omega)) (D3.below hbl) (Nat.le_refl _) (by omega) (by omega) DV2.out SG3.out).mono ?_
      rintro e w4 ⟨c, s', rfl, hc, hce, hf4, hs4, hv4⟩
      rw [DV1.out] at hce hv4
      have ST : Hid _ := hi.step (s' := s') DV3.out DV4.out (by omega) hs4.len hs4.lim hv4 (by rw [← hce]; exact hc)
      have HCE : Hid _ := hce
      clear hce hv4
      have oq4 := hoq.fr hf4 (by omega)
      have hcl := oq4.cell (i := j) (by rw [HQ.out]; omega)
      have hfr4 := oq4.free j
      have HS4 : Hid (w4.heap.size = gq + 1) := by rw [hf4.size]; exact hsz
      generalize q.getD j 0 = old at hcl
      go_wp2
      go_roundw
      case rel =>
        refine ⟨j, _, _, by omega, rfl, (hbl.trans (hf4.below (Nat.le_refl _))).setCell (p := ⟨gq, j, none⟩) (by show gl ≤ gq; omega) _, ?_, hs4.own.other _ _ (by show gl ≠ gq; omega), oq4.set j c, ?_⟩
        · show (w4.setCell _ _).heap.size = _
          rw [← HS4.out]; simp [World.setCell]
        · rw [HCE.out]; exact ST.out
      case measure => simp [intOf]

set_option maxHeartbeats 1000000 in
theorem divMod_n (w : World) (ao bo : Option Addr) (n cap n2 cap2 : Nat) (xs ys : List Nat) (h : Sl w.heap.size w ao n cap xs) (h2 : Sl w.heap.size w bo n2 cap2 ys) (hlen : n ≤ 549755813888) (hlen2 : n2 ≤ 549755813888) (h0 : val ys ≠ 0) :
    Calls Tryz.prog 93 #[.slice ao n cap, .slice bo n2 cap2] w fun e w' => ∃ qo qn qc ro rn rc, e = .returned (.tuple #[.slice qo qn qc, .slice ro rn rc, .bool true]) ∧
      Sl w'.heap.size w' qo qn qc (toL (val xs / val ys)) ∧ Nw w.heap.size qo ∧ Sl w'.heap.size w' ro rn rc (toL (val xs % val ys)) ∧ Below w.heap.size w w' := by
  go_enter Tryz.func93, Tryz.ntmps93
  go_wp2_with fail
  refine (trimmed_any _ _ ao n cap xs h (by omega)).mono ?_
  rintro e w1 ⟨rfl, a1, n1, c1, rfl, s1, l1⟩
  go_wp2_with fail
  refine (trimmed_any _ _ bo n2 cap2 ys h2 (by omega)).mono ?_
  rintro e w1 ⟨rfl, a2, m1, c2, rfl, s2, l2⟩
  clear h h2
  have hm : m1 ≠ 0 := by
    intro hm
    have := s2.len
    rw [hm] at this
    exact h0 (toL_length_zero.1 this)
  have hmb : ((m1 : Int) == 0) = false := by simp [hm]
  have H0 : Hid _ := h0
  clear h0
  go_wp2_with fail
  refine (cmp_any _ _ _ _ _ _ _ _ _ _ s1 s2 (by omega) (by omega)).mono ?_
  rintro e w1 ⟨rfl, hq⟩
  rw [val_toL, val_toL]
  have t1 : Sl w1.heap.size w1 a1 n1 c1 (toL (val xs)) := by rw [hq.size]; exact hq.sl s1
  have t2 : Sl w1.heap.size w1 a2 m1 c2 (toL (val ys)) := by rw [hq.size]; exact hq.sl s2
  have hbq : ∀ u, Below w1.heap.size w1 u → Below w.heap.size w u := fun u hu => (hq.below _).trans (hu.mono (by rw [hq.size]; exact Nat.le_refl _))
  have HBQ : Hid _ := hbq
  have HSZ : Hid (w.heap.size ≤ w1.heap.size) := by show w.heap.size ≤ w1.heap.size; rw [hq.size]; exact Nat.le_refl _
  clear s1 s2 hbq
  by_cases hlt : val xs < val ys
  · rw [cmpN_lt hlt]
    have D1 : Hid (val xs / val ys = 0) := Nat.div_eq_of_lt hlt
    have D2 : Hid (val xs % val ys = val xs) := Nat.mod_eq_of_lt hlt
    clear hlt
    go_wp2_with fail
    refine (norm_any w1 a1 n1 c1 _ t1 (by omega)).mono ?_
    rintro e w2 ⟨a3, n3, c3, rfl, s3, b3⟩
    rw [val_toL] at s3
    go_wp2
    go_ret3
    rw [D1.out, D2.out, toL_zero]
    exact ⟨none, 0, 0, a3, n3, c3, rfl, Sl.nil _ _, Nw.none _, s3, HBQ.out _ b3⟩
  · have hcm : 0 ≤ cmpN (val xs) (val ys) := by unfold cmpN; split <;> (try split) <;> omega
    have hlen3 : m1 ≤ n1 := by
      rw [← t1.len, ← t2.len]
      by_cases hh : (toL (val xs)).length < (toL (val ys)).length
      · have := toL_len_lt hh; omega
      · omega
    generalize cmpN (val xs) (val ys) = cm at hcm
    clear hlt
    by_cases h1 : m1 = 1
    · have h1b : ((m1 : Int) == 1) = true := by simp [h1]
      obtain ⟨b, o, x, rfl, hb, hcell, hx, HX⟩ := t2.cell 0 (by omega)
      rw [Nat.add_zero] at hcell
      have hvx : val ys = x := by
        have e1 := val_take_succ (xs := toL (val ys)) (k := 0) (by rw [t2.len]; omega)
        rw [List.take_of_length_le (by rw [t2.len]; omega), val_toL, ← HX.out, Bp_zero, val_take_zero] at e1
        omega
      have HVX : Hid _ := hvx
      have hx0 : 0 < x := by rw [← hvx]; exact Nat.pos_of_ne_zero H0.out
      have hm0 : (0 : Int) < (m1 : Int) := by omega
      clear hvx h1
      go_wp2_with fail
      refine (divByLimb_n w1 a1 n1 c1 x _ t1 (by omega) hx0 hx).mono ?_
      rintro e w2 ⟨a3, n3, c3, rfl, s3, t3, b3⟩
      rw [val_toL, ← HVX.out] at s3
      rw [val_toL, ← HVX.out]
      have hml : val xs % val ys < 4294967296 := Nat.lt_of_lt_of_le (Nat.mod_lt _ (Nat.pos_of_ne_zero H0.out)) (by rw [HVX.out]; omega)
      generalize hR : val xs % val ys = R at hml ⊢
      have HR : Hid _ := hR
      clear hR
      go_wp2_with fail
      refine (of_any w2 R (by omega)).mono ?_
      rintro e w3 ⟨a4, n4, c4, rfl, s4, b4⟩
      go_wp2
      go_ret3
      rw [HR.out]
      exact ⟨a3, n3, c3, a4, n4, c4, rfl, s3.later b4, t3.mono HSZ.out, s4, HBQ.out _ (b3.trans (b4.mono b3.size))⟩
    · have h1b : ((m1 : Int) == 1) = false := by rw [beq_eq_false_iff_ne]; omega
      obtain ⟨k, rfl⟩ : ∃ k, m1 = k + 2 := ⟨m1 - 2, by omega⟩
      go_wp2_with fail
      refine (divLong_n w1 a1 a2 n1 c1 k c2 _ _ t1 t2 (by omega) (by omega)).mono ?_
      rintro e w2 ⟨a3, n3, c3, a4, n4, c4, rfl, s3, t3, s4, b3⟩
      go_wp2
      go_ret3
      exact ⟨a3, n3, c3, a4, n4, c4, rfl, s3, t3.mono HSZ.out, s4, HBQ.out _ b3⟩

end Go.Proofs.YtbobhhnhlgdkiaaGreat

/- rat: zero, over, Sign. What calls leave that hand back a number in new memory. -/
namespace Go.Proofs.YtbobhhnhlgdkiaaGreat
open Go.RowKit M Kahn
set_option maxRecDepth 100000

/-- What a call leaves that hands back the number q in new memory: its canonical Rat, of at most K limbs each. -/
def Gqn (w : World) (K : Nat) (q : Rat) (e : Ending) (w' : World) : Prop :=
  ∃ s no nn nc eo en ec, e = .returned (.agg #[.bool s, .slice no nn nc, .slice eo en ec]) ∧ Cq w' s no nn nc eo en ec q K ∧ Nw w.heap.size no ∧ Nw w.heap.size eo ∧ Below w.heap.size w w'
theorem Gqn.q {w : World} {K : Nat} {q : Rat} {e : Ending} {w' : World} (h : Gqn w K q e w') : Gq w K q e w' := by
  obtain ⟨s, no, nn, nc, eo, en, ec, h1, h2, _, _, h3⟩ := h
  exact ⟨s, no, nn, nc, eo, en, ec, h1, h2, h3⟩
theorem Gqn.mono {w : World} {K K' : Nat} {q : Rat} {e : Ending} {w' : World} (h : Gqn w K q e w') (hk : K ≤ K') : Gqn w K' q e w' := by
  obtain ⟨s, no, nn, nc, eo, en, ec, h1, h2, h3⟩ := h
  exact ⟨s, no, nn, nc, eo, en, ec, h1, h2.mono hk, h3⟩
/-- .. beside whether there is one. -/
def Gqbn (w : World) (K : Nat) (q : Rat) (b : Bool) (e : Ending) (w' : World) : Prop :=
  ∃ s no nn nc eo en ec, e = .returned (.tuple #[.agg #[.bool s, .slice no nn nc, .slice eo en ec], .bool b]) ∧ Cq w' s no nn nc eo en ec q K ∧ Nw w.heap.size no ∧ Nw w.heap.size eo ∧ Below w.heap.size w w'
theorem Gqbn.q {w : World} {K : Nat} {q : Rat} {b : Bool} {e : Ending} {w' : World} (h : Gqbn w K q b e w') : Gqb w K q b e w' := by
  obtain ⟨s, no, nn, nc, eo, en, ec, h1, h2, _, _, h3⟩ := h
  exact ⟨s, no, nn, nc, eo, en, ec, h1, h2, h3⟩

/-- A Rat is stored into the answer's block and handed back. -/
theorem retn_store {fn : Func} {p : Tmp} {act : Act} {w u : World} {g K : Nat} {q : Rat} {s : Bool} {no : Option Addr} {nn nc : Nat} {eo : Option Addr} {en ec : Nat} (h : fn.results = #[.cell p 24]) (hp : act.tmps.getD p undef = .pointer (some ⟨g, 0, none⟩)) (hd : act.defers = [])
    (hb : Rb u g (.bool false) (.slice none 0 0) (.slice none 0 0)) (hg : w.heap.size ≤ g) (hc : Cq u s no nn nc eo en ec q K) (h3 : Nw w.heap.size no) (h4 : Nw w.heap.size eo) (h5 : Below w.heap.size w u) :
    bodyPost Tryz.prog fn (Gqn w K q) .ret act (((u.setCell ⟨g, 0, none⟩ (.bool s)).setCell ⟨g, 1, none⟩ (.slice no nn nc)).setCell ⟨g, 2, none⟩ (.slice eo en ec)) := by
  have fr := Rb.putFr g u (.bool s) (.slice no nn nc) (.slice eo en ec)
  exact ret_rat h hp hd (hb.put _ _ _) ⟨s, no, nn, nc, eo, en, ec, rfl, hc.store hb fr, h3, h4, h5.trans (fr.below hg)⟩
theorem retn_store2 {fn : Func} {p t : Tmp} {act : Act} {w u : World} {g K : Nat} {q : Rat} {b s : Bool} {no : Option Addr} {nn nc : Nat} {eo : Option Addr} {en ec : Nat} (h : fn.results = #[.cell p 24, .tmp t]) (hp : act.tmps.getD p undef = .pointer (some ⟨g, 0, none⟩)) (ht : act.tmps.getD t undef = .bool b) (hd : act.defers = [])
    (hb : Rb u g (.bool false) (.slice none 0 0) (.slice none 0 0)) (hg : w.heap.size ≤ g) (hc : Cq u s no nn nc eo en ec q K) (h3 : Nw w.heap.size no) (h4 : Nw w.heap.size eo) (h5 : Below w.heap.size w u) :
    bodyPost Tryz.prog fn (Gqbn w K q b) .ret act (((u.setCell ⟨g, 0, none⟩ (.bool s)).setCell ⟨g, 1, none⟩ (.slice no nn nc)).setCell ⟨g, 2, none⟩ (.slice eo en ec)) := by
  have fr := Rb.putFr g u (.bool s) (.slice no nn nc) (.slice eo en ec)
  exact ret_rat2 h hp ht hd (hb.put _ _ _) ⟨s, no, nn, nc, eo, en, ec, rfl, hc.store hb fr, h3, h4, h5.trans (fr.below hg)⟩

/-- One block for the answer. -/
theorem box00 (w : World) : ∃ w0, w0 = w.alloc (.cells #[.bool false, .slice none 0 0, .slice none 0 0] 24) ∧ Rb w0 w.heap.size (.bool false) (.slice none 0 0) (.slice none 0 0) ∧ Below w.heap.size w w0 :=
  ⟨_, rfl, ⟨heap_alloc_new _ _⟩, (Below.refl _ _).alloc (Nat.le_refl _) _⟩

theorem of1_n (w : World) : Calls Tryz.prog 51 #[.int .u64 1] w (GivesN w [1]) := by
  have := of_n w 1 (by omega)
  rwa [toL_one] at this

set_option maxHeartbeats 400000 in
theorem rzero_n (w : World) : Calls Tryz.prog 64 #[] w (Gqn w 1 0) := by
  obtain ⟨w0, hw0, rs, b0⟩ := box00 w
  go_enter Tryz.func64, Tryz.ntmps64
  go_wp2_with fail
  rw [← hw0]
  clear hw0
  refine (of1_n w0).mono ?_
  rintro e w1 ⟨ao, n, c, rfl, s1, t1, b1⟩
  have rs1 := rs.later b1
  obtain ⟨r0, r1, r2⟩ := rs1.cells
  have f0 := rs1.free 0
  have f1 := rs1.free 1
  have f2 := rs1.free 2
  obtain rfl : n = 1 := by rw [← s1.len]; rfl
  go_wp2
  refine retn_store rfl rfl rfl rs1 (by omega) ⟨rfl, Sl.nil _ _, ?_, by omega, by omega⟩ (Nw.none _) (t1.mono b0.size) (b0.trans (b1.mono b0.size))
  rw [show toL (0 : Rat).den = [1] from toL_one]
  exact s1

/-- What a call leaves: a slice in new memory of at most i limbs that reads as ys. -/
def Gvn (w : World) (i : Nat) (ys : List Nat) (e : Ending) (w' : World) : Prop :=
  ∃ ao n cap, e = .returned (.slice ao n cap) ∧ Sl w'.heap.size w' ao n cap ys ∧ n ≤ i ∧ Nw w.heap.size ao ∧ Below w.heap.size w w'

set_option maxHeartbeats 400000 in
theorem over_n {w : World} {ao bo : Option Addr} {n cap m bcap : Nat} {xs ys : List Nat} (h : Sl w.heap.size w ao n cap xs) (h2 : Sl w.heap.size w bo m bcap ys) (i : Nat) (hi : n ≤ i) (hj : m ≤ i) (hb : i ≤ 274877906944) (h0 : val ys ≠ 0) :
    Calls Tryz.prog 77 #[.slice ao n cap, .slice bo m bcap] w (Gvn w i (toL (val xs / val ys))) := by
  have HB := h.bd hi
  go_enter Tryz.func77, Tryz.ntmps77
  go_wp2_with fail
  refine (divMod_n w ao bo n cap m bcap xs ys h h2 (by omega) (by omega) h0).mono ?_
  rintro e w1 ⟨qo, qn, qc, ro, rn, rc, rfl, sq, t1, sr, b1⟩
  go_wp2
  go_ret
  exact ⟨qo, qn, qc, rfl, sq, sq.ln (Nat.lt_of_le_of_lt (Nat.div_le_self _ _) HB), t1, b1⟩

theorem nb_eq0 {x : Nat} : (((nb x : Nat) : Int) == 0) = decide (x = 0) := by
  by_cases h : x = 0
  · subst h; rfl
  · have : nb x ≠ 0 := by
      intro e
      unfold nb at e
      simp [h] at e
    simp [h, this]

set_option maxHeartbeats 1000000 in
theorem ratSign_k {w : World} {s : Bool} {no : Option Addr} {nn nc : Nat} {eo : Option Addr} {en ec : Nat} {K : Nat} {q : Rat} (h : Qn w s no nn nc eo en ec q K) (hK : K ≤ 17179869184) :
    Calls Tryz.prog 37 #[.agg #[.bool s, .slice no nn nc, .slice eo en ec]] w (Gs3 w q) := by
  obtain ⟨xs, ys, hn, hd, hq⟩ := h.there
  have ln := h.ln
  have ld := h.ld
  clear h
  obtain ⟨X, hX⟩ : ∃ X, X = val xs := ⟨_, rfl⟩
  obtain ⟨Y, hY⟩ : ∃ Y, Y = val ys := ⟨_, rfl⟩
  have HX : Hid (val xs = X) := hX.symm
  have HY : Hid (val ys = Y) := hY.symm
  rw [← hX, ← hY] at hq
  have HS : Hid (qsgn q = if X = 0 ∨ Y = 0 then 0 else if s then -1 else 1) := by show qsgn q = _; rw [← hq]; exact qsgn_rq
  clear hX hY hq
  obtain ⟨w0, hw0, bx, b0⟩ := box0 w (.bool s) (.slice no nn nc) (.slice eo en ec)
  have sn := hn.later b0
  have sd := hd.later b0
  clear hn hd
  obtain ⟨c0, c1, c2⟩ := bx.cells
  go_enter Tryz.func37, Tryz.ntmps37
  go_wp2_with fail
  rw [← hw0]
  clear hw0
  refine (bits_any w0 no nn nc _ xs sn (by omega)).mono ?_
  rintro e w1 ⟨rfl, rfl⟩
  rw [HX.out]
  have hz := nb_eq0 (x := X)
  by_cases hx : X = 0
  · have HS2 : Hid (qsgn q = 0) := by show qsgn q = 0; rw [HS.out, if_pos (.inl hx)]
    have hz2 : (((nb X : Nat) : Int) == 0) = true := by rw [hz]; simp [hx]
    clear hx hz
    generalize nb X = B at *
    go_wp2
    go_ret
    exact ⟨ret1 HS2.out.symm, b0⟩
  · have hz2 : (((nb X : Nat) : Int) == 0) = false := by rw [hz]; simp [hx]
    have X0 : Hid (X ≠ 0) := hx
    clear hx hz
    generalize nb X = B at *
    go_wp2_with fail
    refine (bits_any w0 eo en ec _ ys sd (by omega)).mono ?_
    rintro e w1 ⟨rfl, rfl⟩
    rw [HY.out]
    have hz := nb_eq0 (x := Y)
    by_cases hy : Y = 0
    · have HS2 : Hid (qsgn q = 0) := by show qsgn q = 0; rw [HS.out, if_pos (.inr hy)]
      have hz3 : (((nb Y : Nat) : Int) == 0) = true := by rw [hz]; simp [hy]
      clear hy hz
      generalize nb Y = C at *
      go_wp2
      go_ret
      exact ⟨ret1 HS2.out.symm, b0⟩
    · have HS2 : Hid (qsgn q = if s then -1 else 1) := by show qsgn q = _; rw [HS.out, if_neg (by have := X0.out; omega)]
      have hz3 : (((nb Y : Nat) : Int) == 0) = false := by rw [hz]; simp [hy]
      clear hy hz
      generalize nb Y = C at *
      cases s
      · go_wp2
        go_ret
        exact ⟨ret1 HS2.out.symm, b0⟩
      · go_wp2
        go_ret
        exact ⟨ret1 HS2.out.symm, b0⟩
end Go.Proofs.YtbobhhnhlgdkiaaGreat

/- rat: Read, Neg, Abs. -/
namespace Go.Proofs.YtbobhhnhlgdkiaaGreat
open Go.RowKit M Kahn
set_option maxRecDepth 100000

/-- A row of limbs of A, at block B or behind it. -/
def VNn (A K B : Nat) : Value → World → Prop := fun v u => ∃ ao n c, v = .slice ao n c ∧ Sl u.heap.size u ao n c (toL A) ∧ n ≤ K ∧ Nw B ao
/-- The canonical Rat of q, its rows at block B or behind it. -/
def VCn (q : Rat) (K B : Nat) : Value → World → Prop := fun v u => ∃ s no nn nc eo en ec, v = .agg #[.bool s, .slice no nn nc, .slice eo en ec] ∧ Cq u s no nn nc eo en ec q K ∧ Nw B no ∧ Nw B eo
theorem VNn.lasts (A K B : Nat) : Lasts (VNn A K B) := fun _ _ _ hb ⟨ao, n, c, h1, h2, h3⟩ => ⟨ao, n, c, h1, h2.later hb, h3⟩
theorem VCn.lasts (q : Rat) (K B : Nat) : Lasts (VCn q K B) := fun _ _ _ hb ⟨s, no, nn, nc, eo, en, ec, h1, h2, h3⟩ => ⟨s, no, nn, nc, eo, en, ec, h1, h2.later hb, h3⟩

section
variable {w : World} {s : Bool} {no : Option Addr} {nn nc : Nat} {eo : Option Addr} {en ec : Nat} {K : Nat} {q : Rat}
set_option maxRecDepth 100000 in
set_option maxHeartbeats 2000000 in
theorem ratRead_n (h : Qn w s no nn nc eo en ec q K) (hK1 : 1 ≤ K) (hK : K ≤ 17179869184) :
    Calls Tryz.prog 50 #[.agg #[.bool s, .slice no nn nc, .slice eo en ec]] w (Gqn w K q) := by
  obtain ⟨w0, hw0, bx, rs, b0⟩ := box1 w (.bool s) (.slice no nn nc) (.slice eo en ec)
  have h0 := h.later b0
  clear h
  obtain ⟨g, hg⟩ : ∃ g, g = w.heap.size := ⟨_, rfl⟩
  have HG : Hid (w.heap.size = g) := hg.symm
  have HGL : Hid (g ≤ w0.heap.size) := by show g ≤ w0.heap.size; rw [hg]; exact b0.size
  obtain ⟨c0, c1, c2⟩ := bx.cells
  rw [← hg] at c0 c1 c2 bx rs
  go_enter Tryz.func50, Tryz.ntmps50
  go_wp2_with fail
  rw [← hw0, ← hg]
  clear hw0 hg
  refine (ratSign_k h0 hK).mono ?_
  rintro e w1 ⟨rfl, b1⟩
  replace h0 := h0.later b1
  replace bx := bx.later b1
  replace rs := rs.later b1
  have bb1 := b0.trans (b1.mono b0.size)
  replace HGL : Hid (g ≤ w1.heap.size) := Nat.le_trans HGL.out b1.size
  clear c0 c1 c2 b0 b1
  obtain ⟨c0, c1, c2⟩ := bx.cells
  by_cases hq0 : q = 0
  · have HQ : Hid (q = 0) := hq0
    rw [qsgn_zero.2 hq0]
    clear hq0
    go_wp2_with fail
    refine (rzero_n w1).mono ?_
    rintro e w2 ⟨s1, no1, nn1, nc1, eo1, en1, ec1, rfl, cq, t1, t2, b1⟩
    rw [← HQ.out] at cq
    have rs1 := rs.later b1
    obtain ⟨r0, r1, r2⟩ := rs1.cells
    have f0 := rs1.free 0
    have f1 := rs1.free 1
    have f2 := rs1.free 2
    go_wp2
    exact retn_store rfl rfl rfl rs1 (by rw [HG.out]; omega) (cq.mono hK1) (t1.mono bb1.size) (t2.mono bb1.size) (bb1.trans (b1.mono bb1.size))
  · have hqb : (qsgn q == 0) = false := by rw [beq_eq_false_iff_ne]; exact fun e => hq0 (qsgn_zero.1 e)
    obtain ⟨xs, ys, sn, sd, hq⟩ := h0.there
    have ln := h0.ln
    have ld := h0.ld
    clear h0
    obtain ⟨X, hX⟩ : ∃ X, X = val xs := ⟨_, rfl⟩
    obtain ⟨Y, hY⟩ : ∃ Y, Y = val ys := ⟨_, rfl⟩
    have HX : Hid (val xs = X) := hX.symm
    have HY : Hid (val ys = Y) := hY.symm
    rw [← hX, ← hY] at hq
    have X0 : X ≠ 0 := fun e => hq0 (by rw [← hq, e, rq_num0])
    have Y0 : Y ≠ 0 := fun e => hq0 (by rw [← hq, e, rq_den0])
    have h1 := rq_natAbs (s := s) (n := X) Y0
    have h2 := (rq_canon (s := s) (n := X) Y0).2
    have h3 := rq_sign (s := s) X0 Y0
    rw [hq] at h1 h2 h3
    have H1 : Hid _ := h1
    have H2 : Hid _ := h2
    have H3 : Hid _ := h3
    have G0 : Hid (Nat.gcd X Y ≠ 0) := by show Nat.gcd X Y ≠ 0; have := gcd_pos' (n := X) Y0; omega
    clear h1 h2 h3 hX hY hq X0 Y0 hq0
    generalize qsgn q = z at hqb ⊢
    go_wp2_with fail
    refine (gcd_k sn sd K ln ld hK).mono ?_
    rintro e w2 ⟨go, gn, gc, rfl, sg, hgn, b2⟩
    rw [HX.out, HY.out] at sg
    have sn1 := sn.later b2
    have sd1 := sd.later b2
    have bx1 := bx.later b2
    have rs1 := rs.later b2
    have bb2 := bb1.trans (b2.mono bb1.size)
    replace HGL : Hid (g ≤ w2.heap.size) := Nat.le_trans HGL.out b2.size
    clear c0 c1 c2 sn sd bx rs bb1 b2 hqb
    go_wp2
    have HLst : Lst [VV (.pointer (some ⟨g, 0, none⟩)), VV (.bool s), VV (.pointer (some ⟨g, 1, none⟩)), VV (.slice no nn nc), VV (.slice go gn gc), VNn (X / Nat.gcd X Y) (K) (g), VV (.pointer (some ⟨g, 2, none⟩)), VV (.slice eo en ec), VV (.slice go gn gc), VNn (Y / Nat.gcd X Y) (K) (g), VCn (q) (K) (g)] := ⟨VV.lasts _, VV.lasts _, VV.lasts _, VV.lasts _, VV.lasts _, VNn.lasts _ _ _, VV.lasts _, VV.lasts _, VV.lasts _, VNn.lasts _ _ _, VCn.lasts _ _ _, trivial⟩
    refine wp_region_kahn 11 24 [([], [1]), ([(0, 13)], []), ([], [1]), ([(2, 15)], []), ([], [3]), ([(3, 16), (4, 17)], []), ([], [1]), ([(6, 19)], []), ([], [3]), ([(7, 20), (8, 21)], []), ([(1, 14), (5, 18), (9, 22)], [])]
      (fun u => Below w2.heap.size w2 u) (fun u u' => Below u.heap.size u u')
      (Sp [VV (.pointer (some ⟨g, 0, none⟩)), VV (.bool s), VV (.pointer (some ⟨g, 1, none⟩)), VV (.slice no nn nc), VV (.slice go gn gc), VNn (X / Nat.gcd X Y) (K) (g), VV (.pointer (some ⟨g, 2, none⟩)), VV (.slice eo en ec), VV (.slice go gn gc), VNn (Y / Nat.gcd X Y) (K) (g), VCn (q) (K) (g)])
      (by kernel_rfl) rfl (by kernel_rfl) (Below.refl _ _).drew (fun k v u u' _ hg hs => Sp.lasts HLst k v u u' hg hs) ?_ ?_
    · refine ⟨.inl ⟨by simp, fun ρ u hC hc hf hd ho => ?_⟩, .inl ⟨by simp, fun ρ u hC hc hf hd ho => ?_⟩, .inl ⟨by simp, fun ρ u hC hc hf hd ho => ?_⟩, .inl ⟨by simp, fun ρ u hC hc hf hd ho => ?_⟩, .inl ⟨by simp, fun ρ u hC hc hf hd ho => ?_⟩, .inl ⟨by simp, fun ρ u hC hc hf hd ho => ?_⟩, .inl ⟨by simp, fun ρ u hC hc hf hd ho => ?_⟩, .inl ⟨by simp, fun ρ u hC hc hf hd ho => ?_⟩, .inl ⟨by simp, fun ρ u hC hc hf hd ho => ?_⟩, .inl ⟨by simp, fun ρ u hC hc hf hd ho => ?_⟩, .inl ⟨by simp, fun ρ u hC hc hf hd ho => ?_⟩, trivial⟩
      · have e1 : ρ (.tmp 1) = .pointer (some ⟨g, 0, none⟩) := ho 1 (by simp)
        refine Goes.pure (.pointer (some ⟨g, 0, none⟩)) ?_ ⟨hC, Below.refl _ _, rfl⟩
        unfold Goes
        go_simp
      · have e13 : ρ (.tmp 13) = .pointer (some ⟨g, 0, none⟩) := hd (0, 13) (by simp)
        obtain ⟨c0, c1, c2⟩ := (bx1.later hC).cells
        refine Goes.pure (.bool s) ?_ ⟨hC, Below.refl _ _, rfl⟩
        unfold Goes
        go_simp
      · have e1 : ρ (.tmp 1) = .pointer (some ⟨g, 0, none⟩) := ho 1 (by simp)
        refine Goes.pure (.pointer (some ⟨g, 1, none⟩)) ?_ ⟨hC, Below.refl _ _, rfl⟩
        unfold Goes
        go_simp
      · have e15 : ρ (.tmp 15) = .pointer (some ⟨g, 1, none⟩) := hd (2, 15) (by simp)
        obtain ⟨c0, c1, c2⟩ := (bx1.later hC).cells
        refine Goes.pure (.slice no nn nc) ?_ ⟨hC, Below.refl _ _, rfl⟩
        unfold Goes
        go_simp
      · have e3 : ρ (.tmp 3) = .slice go gn gc := ho 3 (by simp)
        refine Goes.pure (.slice go gn gc) ?_ ⟨hC, Below.refl _ _, rfl⟩
        unfold Goes
        go_simp
      · have e16 : ρ (.tmp 16) = .slice no nn nc := hd (3, 16) (by simp)
        have e17 : ρ (.tmp 17) = .slice go gn gc := hd (4, 17) (by simp)
        refine Goes.call 77 #[.slice no nn nc, .slice go gn gc] (by go_simp) ?_
        refine Calls.mono (over_n (sn1.later hC) (sg.later hC) K ln hgn (by omega) (by rw [val_toL]; exact G0.out)) ?_
        rintro e u' ⟨ro, rn, rc, rfl, sr, lr, tr, lb⟩
        exact ⟨_, rfl, hC.trans (lb.mono hC.size), lb, ⟨ro, rn, rc, rfl, by rw [HX.out, val_toL] at sr; exact sr, lr, tr.mono (Nat.le_trans HGL.out hC.size)⟩⟩
      · have e1 : ρ (.tmp 1) = .pointer (some ⟨g, 0, none⟩) := ho 1 (by simp)
        refine Goes.pure (.pointer (some ⟨g, 2, none⟩)) ?_ ⟨hC, Below.refl _ _, rfl⟩
        unfold Goes
        go_simp
      · have e19 : ρ (.tmp 19) = .pointer (some ⟨g, 2, none⟩) := hd (6, 19) (by simp)
        obtain ⟨c0, c1, c2⟩ := (bx1.later hC).cells
        refine Goes.pure (.slice eo en ec) ?_ ⟨hC, Below.refl _ _, rfl⟩
        unfold Goes
        go_simp
      · have e3 : ρ (.tmp 3) = .slice go gn gc := ho 3 (by simp)
        refine Goes.pure (.slice go gn gc) ?_ ⟨hC, Below.refl _ _, rfl⟩
        unfold Goes
        go_simp
      · have e20 : ρ (.tmp 20) = .slice eo en ec := hd (7, 20) (by simp)
        have e21 : ρ (.tmp 21) = .slice go gn gc := hd (8, 21) (by simp)
        refine Goes.call 77 #[.slice eo en ec, .slice go gn gc] (by go_simp) ?_
        refine Calls.mono (over_n (sd1.later hC) (sg.later hC) K ld hgn (by omega) (by rw [val_toL]; exact G0.out)) ?_
        rintro e u' ⟨ro, rn, rc, rfl, sr, lr, tr, lb⟩
        exact ⟨_, rfl, hC.trans (lb.mono hC.size), lb, ⟨ro, rn, rc, rfl, by rw [HY.out, val_toL] at sr; exact sr, lr, tr.mono (Nat.le_trans HGL.out hC.size)⟩⟩
      · have e14 : ρ (.tmp 14) = .bool s := hd (1, 14) (by simp)
        obtain ⟨o18, n18, c18, e18, k18, j18, t18⟩ : VNn (X / Nat.gcd X Y) (K) (g) (ρ (.tmp 18)) u := hd (5, 18) (by simp)
        obtain ⟨o22, n22, c22, e22, k22, j22, t22⟩ : VNn (Y / Nat.gcd X Y) (K) (g) (ρ (.tmp 22)) u := hd (9, 22) (by simp)
        refine Goes.pure (.agg #[.bool s, .slice o18 n18 c18, .slice o22 n22 c22]) ?_ ⟨hC, Below.refl _ _, ⟨s, o18, n18, c18, o22, n22, c22, rfl, ⟨H3.out.symm, by rw [H1.out]; exact k18, by rw [H2.out]; exact k22, j18, j22⟩, t18, t22⟩⟩
        unfold Goes
        go_simp
    · intro vs u hC hv
      obtain ⟨s1, no1, nn1, nc1, eo1, en1, ec1, e23, cq, t1, t2⟩ : VCn q K g (vs 10) u := hv 10 (by omega)
      have rs2 := rs1.later hC
      obtain ⟨r0, r1, r2⟩ := rs2.cells
      have f0 := rs2.free 0
      have f1 := rs2.free 1
      have f2 := rs2.free 2
      simp only [puts, List.take, List.drop, Act.put, List.setIfInBounds_toArray, List.set_cons_succ, List.set_cons_zero, Nat.reduceAdd, e23]
      go_wp2
      exact retn_store rfl rfl rfl rs2 (by rw [HG.out]; omega) cq (t1.mono (by rw [HG.out]; exact Nat.le_refl _)) (t2.mono (by rw [HG.out]; exact Nat.le_refl _)) (bb2.trans (hC.mono bb2.size))

theorem ratRead_k (h : Qn w s no nn nc eo en ec q K) (hK1 : 1 ≤ K) (hK : K ≤ 17179869184) :
    Calls Tryz.prog 50 #[.agg #[.bool s, .slice no nn nc, .slice eo en ec]] w (Gq w K q) := (ratRead_n h hK1 hK).mono fun _ _ h => h.q

/-- The sign of a Rat in a block is written. -/
theorem Rb.sgn {w : World} {g : Nat} {a b c : Value} (h : Rb w g a b c) (x : Value) : Rb (w.setCell ⟨g, 0, none⟩ x) g x b c := ⟨by rw [heap_setCell_same w g 0 _ _ x h.at_]; rfl⟩
theorem Qn.store {u v : World} {g : Nat} {t : Bool} {a1 a2 : Option Addr} {n1 c1 n2 c2 : Nat} (h : Qn u s no nn nc eo en ec q K) (hb : Rb u g (.bool t) (.slice a1 n1 c1) (.slice a2 n2 c2)) (hw : Fr g u v) : Qn v s no nn nc eo en ec q K := by
  obtain ⟨xs, ys, h1, h2, h3⟩ := h.there
  exact ⟨⟨xs, ys, h1.store hb hw, h2.store hb hw, h3⟩, h.ln, h.ld⟩

set_option maxHeartbeats 1000000 in
theorem ratNeg_n (h : Qn w s no nn nc eo en ec q K) (hK1 : 1 ≤ K) (hK : K ≤ 17179869184) :
    Calls Tryz.prog 39 #[.agg #[.bool s, .slice no nn nc, .slice eo en ec]] w (Gqn w K (-q)) := by
  obtain ⟨w0, hw0, bx, rs1, bb1⟩ := box1 w (.bool (!s)) (.slice no nn nc) (.slice eo en ec)
  have h1 := (h.later bb1).flip
  clear h bx
  obtain ⟨g, hg⟩ : ∃ g, g = w.heap.size := ⟨_, rfl⟩
  have HG : Hid (w.heap.size = g) := hg.symm
  rw [← hg] at rs1
  go_enter Tryz.func39, Tryz.ntmps39
  go_wp2_with fail
  rw [← hw0, ← hg]
  clear hw0 hg
  refine (ratRead_n h1 hK1 hK).mono ?_
  rintro e w1 ⟨s1, no1, nn1, nc1, eo1, en1, ec1, rfl, cq, t1, t2, b1⟩
  have rs2 := rs1.later b1
  obtain ⟨r0, r1, r2⟩ := rs2.cells
  have f0 := rs2.free 0
  have f1 := rs2.free 1
  have f2 := rs2.free 2
  go_wp2
  exact retn_store rfl rfl rfl rs2 (by rw [HG.out]; omega) cq (t1.mono bb1.size) (t2.mono bb1.size) (bb1.trans (b1.mono bb1.size))
theorem ratNeg_k (h : Qn w s no nn nc eo en ec q K) (hK1 : 1 ≤ K) (hK : K ≤ 17179869184) :
    Calls Tryz.prog 39 #[.agg #[.bool s, .slice no nn nc, .slice eo en ec]] w (Gq w K (-q)) := (ratNeg_n h hK1 hK).mono fun _ _ h => h.q

end
end Go.Proofs.YtbobhhnhlgdkiaaGreat

/- rat: size, Of. -/
namespace Go.Proofs.YtbobhhnhlgdkiaaGreat
open Go.RowKit M Kahn
set_option maxRecDepth 100000

set_option maxHeartbeats 400000 in
theorem size_neg (w : World) (n : Int) (h1 : -9223372036854775808 ≤ n) (h2 : n < 0) :
    Calls Tryz.prog 52 #[.int .i64 n] w fun e w' => e = .returned (.int .u64 ((n.natAbs : Nat) : Int)) ∧ w = w' := by
  have hw : IntKind.u64.wrap n = n + 18446744073709551616 := by rw [IntKind.wrap_u64]; omega
  have hw2 : IntKind.u64.wrap (-(n + 18446744073709551616)) = -n := by rw [IntKind.wrap_u64]; omega
  go_enter Tryz.func52, Tryz.ntmps52
  go_wp2
  go_ret
  exact ⟨ret1 (by omega), rfl⟩
set_option maxHeartbeats 400000 in
theorem size_pos (w : World) (n : Int) (h1 : 0 ≤ n) (h2 : n ≤ 9223372036854775807) :
    Calls Tryz.prog 52 #[.int .i64 n] w fun e w' => e = .returned (.int .u64 ((n.natAbs : Nat) : Int)) ∧ w = w' := by
  go_enter Tryz.func52, Tryz.ntmps52
  go_wp2
  go_ret
  exact ⟨ret1 (by omega), rfl⟩
theorem size_any (w : World) (n : Int) (h1 : -9223372036854775808 ≤ n) (h2 : n ≤ 9223372036854775807) :
    Calls Tryz.prog 52 #[.int .i64 n] w fun e w' => e = .returned (.int .u64 ((n.natAbs : Nat) : Int)) ∧ w = w' := by
  by_cases h : n < 0
  · exact size_neg w n h1 h
  · exact size_pos w n (by omega) h2
theorem of_kw (w : World) (x : Nat) (hx : x < 18446744073709551616) : Calls Tryz.prog 51 #[.int .u64 (x : Int)] w (Gv w 2 (toL x)) :=
  (of_n w x hx).mono fun _ _ ⟨a, k, c, he, s, _, b⟩ => ⟨a, k, c, he, s, s.ln (by rw [Bp_succ, Bp_succ, Bp_zero]; omega), b⟩

set_option maxHeartbeats 1000000 in
theorem ratOf_n {w : World} (n d : Int) (h1 : -9223372036854775808 ≤ n) (h2 : n ≤ 9223372036854775807) (h3 : -9223372036854775808 ≤ d) (h4 : d ≤ 9223372036854775807) :
    Calls Tryz.prog 17 #[.int .i64 n, .int .i64 d] w (Gqn w 2 ((n : Rat) / (d : Rat))) := by
  have HQ : Hid (rq (decide (n < 0) != decide (d < 0)) n.natAbs d.natAbs = (n : Rat) / (d : Rat)) := rq_of n d
  have C1 : Hid (∀ u, Calls Tryz.prog 52 #[.int .i64 n] u fun e w' => e = .returned (.int .u64 ((n.natAbs : Nat) : Int)) ∧ u = w') := fun u => size_any u n h1 h2
  have C2 : Hid (∀ u, Calls Tryz.prog 52 #[.int .i64 d] u fun e w' => e = .returned (.int .u64 ((d.natAbs : Nat) : Int)) ∧ u = w') := fun u => size_any u d h3 h4
  have D1 : Hid (∀ u, Calls Tryz.prog 51 #[.int .u64 ((n.natAbs : Nat) : Int)] u (Gv u 2 (toL n.natAbs))) := fun u => of_kw u n.natAbs (by omega)
  have D2 : Hid (∀ u, Calls Tryz.prog 51 #[.int .u64 ((d.natAbs : Nat) : Int)] u (Gv u 2 (toL d.natAbs))) := fun u => of_kw u d.natAbs (by omega)
  obtain ⟨w0, hw0, rs0, b0⟩ := box00 w
  generalize n.natAbs = N at *
  generalize d.natAbs = D at *
  rcases (show (n < 0 ∧ d < 0) ∨ (n < 0 ∧ 0 ≤ d) ∨ (0 ≤ n ∧ d < 0) ∨ (0 ≤ n ∧ 0 ≤ d) from by omega) with ⟨hn, hd⟩ | ⟨hn, hd⟩ | ⟨hn, hd⟩ | ⟨hn, hd⟩
  · have en : decide (n < 0) = true := by simp; omega
    have ed : decide (d < 0) = true := by simp; omega
    have HS : Hid (rq false N D = (n : Rat) / (d : Rat)) := by
      have := HQ.out
      rw [en, ed] at this
      exact this
    generalize (n : Rat) / (d : Rat) = q at *
    go_enter Tryz.func17, Tryz.ntmps17
    go_wp2_with fail
    rw [← hw0]
    clear hw0
    refine Calls.mono (C1.out w0) ?_
    rintro e w1 ⟨rfl, rfl⟩
    go_wp2_with fail
    refine Calls.mono (D1.out w0) ?_
    rintro e w1 ⟨xo, xn, xc, rfl, sx, lx, b1⟩
    go_wp2_with fail
    refine Calls.mono (C2.out w1) ?_
    rintro e w2 ⟨rfl, rfl⟩
    go_wp2_with fail
    refine Calls.mono (D2.out w1) ?_
    rintro e w2 ⟨yo, yn, yc, rfl, sy, ly, b2⟩
    have sx2 := sx.later b2
    have bb := (b0.trans (b1.mono b0.size)).trans (b2.mono (by have := b0.size; have := b1.size; omega))
    have rs2 := (rs0.later b1).later b2
    clear sx b1 b2 b0 rs0
    go_wp2_with fail
    refine (ratRead_n (w := w2) (s := false) (q := q) (K := 2) ⟨⟨_, _, sx2, sy, by rw [val_toL, val_toL]; exact HS.out⟩, lx, ly⟩ (by omega) (by omega)).mono ?_
    rintro e w3 ⟨s1, no1, nn1, nc1, eo1, en1, ec1, rfl, cq, t1, t2, lb⟩
    have rs1 := rs2.later lb
    obtain ⟨r0, r1, r2⟩ := rs1.cells
    have f0 := rs1.free 0
    have f1 := rs1.free 1
    have f2 := rs1.free 2
    go_wp2
    exact retn_store rfl rfl rfl rs1 (by omega) cq (t1.mono bb.size) (t2.mono bb.size) (bb.trans (lb.mono bb.size))
  · have en : decide (n < 0) = true := by simp; omega
    have ed : decide (d < 0) = false := by simp; omega
    have HS : Hid (rq true N D = (n : Rat) / (d : Rat)) := by
      have := HQ.out
      rw [en, ed] at this
      exact this
    generalize (n : Rat) / (d : Rat) = q at *
    go_enter Tryz.func17, Tryz.ntmps17
    go_wp2_with fail
    rw [← hw0]
    clear hw0
    refine Calls.mono (C1.out w0) ?_
    rintro e w1 ⟨rfl, rfl⟩
    go_wp2_with fail
    refine Calls.mono (D1.out w0) ?_
    rintro e w1 ⟨xo, xn, xc, rfl, sx, lx, b1⟩
    go_wp2_with fail
    refine Calls.mono (C2.out w1) ?_
    rintro e w2 ⟨rfl, rfl⟩
    go_wp2_with fail
    refine Calls.mono (D2.out w1) ?_
    rintro e w2 ⟨yo, yn, yc, rfl, sy, ly, b2⟩
    have sx2 := sx.later b2
    have bb := (b0.trans (b1.mono b0.size)).trans (b2.mono (by have := b0.size; have := b1.size; omega))
    have rs2 := (rs0.later b1).later b2
    clear sx b1 b2 b0 rs0
    go_wp2_with fail
    refine (ratRead_n (w := w2) (s := true) (q := q) (K := 2) ⟨⟨_, _, sx2, sy, by rw [val_toL, val_toL]; exact HS.out⟩, lx, ly⟩ (by omega) (by omega)).mono ?_
    rintro e w3 ⟨s1, no1, nn1, nc1, eo1, en1, ec1, rfl, cq, t1, t2, lb⟩
    have rs1 := rs2.later lb
    obtain ⟨r0, r1, r2⟩ := rs1.cells
    have f0 := rs1.free 0
    have f1 := rs1.free 1
    have f2 := rs1.free 2
    go_wp2
    exact retn_store rfl rfl rfl rs1 (by omega) cq (t1.mono bb.size) (t2.mono bb.size) (bb.trans (lb.mono bb.size))
  · have en : decide (n < 0) = false := by simp; omega
    have ed : decide (d < 0) = true := by simp; omega
    have HS : Hid (rq true N D = (n : Rat) / (d : Rat)) := by
      have := HQ.out
      rw [en, ed] at this
      exact this
    generalize (n : Rat) / (d : Rat) = q at *
    go_enter Tryz.func17, Tryz.ntmps17
    go_wp2_with fail
    rw [← hw0]
    clear hw0
    refine Calls.mono (C1.out w0) ?_
    rintro e w1 ⟨rfl, rfl⟩
    go_wp2_with fail
    refine Calls.mono (D1.out w0) ?_
    rintro e w1 ⟨xo, xn, xc, rfl, sx, lx, b1⟩
    go_wp2_with fail
    refine Calls.mono (C2.out w1) ?_
    rintro e w2 ⟨rfl, rfl⟩
    go_wp2_with fail
    refine Calls.mono (D2.out w1) ?_
    rintro e w2 ⟨yo, yn, yc, rfl, sy, ly, b2⟩
    have sx2 := sx.later b2
    have bb := (b0.trans (b1.mono b0.size)).trans (b2.mono (by have := b0.size; have := b1.size; omega))
    have rs2 := (rs0.later b1).later b2
    clear sx b1 b2 b0 rs0
    go_wp2_with fail
    refine (ratRead_n (w := w2) (s := true) (q := q) (K := 2) ⟨⟨_, _, sx2, sy, by rw [val_toL, val_toL]; exact HS.out⟩, lx, ly⟩ (by omega) (by omega)).mono ?_
    rintro e w3 ⟨s1, no1, nn1, nc1, eo1, en1, ec1, rfl, cq, t1, t2, lb⟩
    have rs1 := rs2.later lb
    obtain ⟨r0, r1, r2⟩ := rs1.cells
    have f0 := rs1.free 0
    have f1 := rs1.free 1
    have f2 := rs1.free 2
    go_wp2
    exact retn_store rfl rfl rfl rs1 (by omega) cq (t1.mono bb.size) (t2.mono bb.size) (bb.trans (lb.mono bb.size))
  · have en : decide (n < 0) = false := by simp; omega
    have ed : decide (d < 0) = false := by simp; omega
    have HS : Hid (rq false N D = (n : Rat) / (d : Rat)) := by
      have := HQ.out
      rw [en, ed] at this
      exact this
    generalize (n : Rat) / (d : Rat) = q at *
    go_enter Tryz.func17, Tryz.ntmps17
    go_wp2_with fail
    rw [← hw0]
    clear hw0
    refine Calls.mono (C1.out w0) ?_
    rintro e w1 ⟨rfl, rfl⟩
    go_wp2_with fail
    refine Calls.mono (D1.out w0) ?_
    rintro e w1 ⟨xo, xn, xc, rfl, sx, lx, b1⟩
    go_wp2_with fail
    refine Calls.mono (C2.out w1) ?_
    rintro e w2 ⟨rfl, rfl⟩
    go_wp2_with fail
    refine Calls.mono (D2.out w1) ?_
    rintro e w2 ⟨yo, yn, yc, rfl, sy, ly, b2⟩
    have sx2 := sx.later b2
    have bb := (b0.trans (b1.mono b0.size)).trans (b2.mono (by have := b0.size; have := b1.size; omega))
    have rs2 := (rs0.later b1).later b2
    clear sx b1 b2 b0 rs0
    go_wp2_with fail
    refine (ratRead_n (w := w2) (s := false) (q := q) (K := 2) ⟨⟨_, _, sx2, sy, by rw [val_toL, val_toL]; exact HS.out⟩, lx, ly⟩ (by omega) (by omega)).mono ?_
    rintro e w3 ⟨s1, no1, nn1, nc1, eo1, en1, ec1, rfl, cq, t1, t2, lb⟩
    have rs1 := rs2.later lb
    obtain ⟨r0, r1, r2⟩ := rs1.cells
    have f0 := rs1.free 0
    have f1 := rs1.free 1
    have f2 := rs1.free 2
    go_wp2
    exact retn_store rfl rfl rfl rs1 (by omega) cq (t1.mono bb.size) (t2.mono bb.size) (bb.trans (lb.mono bb.size))
theorem ratOf_k {w : World} (n d : Int) (h1 : -9223372036854775808 ≤ n) (h2 : n ≤ 9223372036854775807) (h3 : -9223372036854775808 ≤ d) (h4 : d ≤ 9223372036854775807) :
    Calls Tryz.prog 17 #[.int .i64 n, .int .i64 d] w (Gq w 2 ((n : Rat) / (d : Rat))) := (ratOf_n n d h1 h2 h3 h4).mono fun _ _ h => h.q
end Go.Proofs.YtbobhhnhlgdkiaaGreat

/- rat: plusSigned, plus. -/
namespace Go.Proofs.YtbobhhnhlgdkiaaGreat
open Go.RowKit M Kahn
set_option maxRecDepth 100000

theorem sg_add_same (s : Bool) (a b : Nat) : sg s a + sg s b = sg s (a + b) := by cases s <;> simp [sg] <;> omega
theorem sg_add_ge {s t : Bool} {a b : Nat} (hst : s ≠ t) (h : b ≤ a) : sg s a + sg t b = sg s (a - b) := by cases s <;> cases t <;> simp [sg] at * <;> omega
theorem sg_add_lt {s t : Bool} {a b : Nat} (hst : s ≠ t) (h : a ≤ b) : sg s a + sg t b = sg t (b - a) := by rw [Int.add_comm]; exact sg_add_ge (Ne.symm hst) h

/-- The sign and the natural of a sum. -/
def psg (s t : Bool) (a b : Nat) : Bool := if s = t then s else if b ≤ a then s else t
def pab (s t : Bool) (a b : Nat) : Nat := if s = t then a + b else if b ≤ a then a - b else b - a
theorem psg_pab (s t : Bool) (a b : Nat) : sg (psg s t a b) (pab s t a b) = sg s a + sg t b := by
  unfold psg pab
  by_cases h : s = t
  · subst h; rw [if_pos rfl, if_pos rfl, sg_add_same]
  · rw [if_neg h, if_neg h]
    by_cases h2 : b ≤ a
    · rw [if_pos h2, if_pos h2, sg_add_ge h h2]
    · rw [if_neg h2, if_neg h2, sg_add_lt h (by omega)]
/-- What plusSigned leaves: a sign and a natural. -/
def GT2 (w : World) (i : Nat) (b : Bool) (C : Nat) (e : Ending) (w' : World) : Prop :=
  ∃ ao n cap, e = .returned (.tuple #[.bool b, .slice ao n cap]) ∧ Sl w'.heap.size w' ao n cap (toL C) ∧ n ≤ i ∧ Below w.heap.size w w'

section
variable {w : World} {ao bo : Option Addr} {n cap m bcap : Nat} {xs ys : List Nat}
set_option maxHeartbeats 1000000 in
theorem plusSigned_k {s t : Bool} (h : Sl w.heap.size w ao n cap xs) (h2 : Sl w.heap.size w bo m bcap ys) (i : Nat) (hi : n ≤ i) (hj : m ≤ i) (hb : i ≤ 274877906944) :
    Calls Tryz.prog 86 #[.bool s, .slice ao n cap, .bool t, .slice bo m bcap] w (GT2 w (i + 1) (psg s t (val xs) (val ys)) (pab s t (val xs) (val ys))) := by
  by_cases hst : s = t
  · subst hst
    have hc := add_k h h2 i hi hj hb
    have hs1 : psg s s (val xs) (val ys) = s := by unfold psg; rw [if_pos rfl]
    have hs2 : pab s s (val xs) (val ys) = val xs + val ys := by unfold pab; rw [if_pos rfl]
    rw [hs1, hs2]
    clear hs1 hs2
    have hbb : (s == s) = true := by simp
    clear h h2
    go_enter Tryz.func86, Tryz.ntmps86
    go_wp2_with fail
    refine hc.mono ?_
    rintro e w1 ⟨a1, n1, c1, rfl, s1, l1, b1⟩
    go_wp2
    go_ret2
    exact ⟨a1, n1, c1, rfl, s1, l1, b1⟩
  · have hbb : (s == t) = false := by simp [hst]
    by_cases hle : val ys ≤ val xs
    · have hs1 : psg s t (val xs) (val ys) = s := by unfold psg; rw [if_neg hst, if_pos hle]
      have hs2 : pab s t (val xs) (val ys) = val xs - val ys := by unfold pab; rw [if_neg hst, if_pos hle]
      rw [hs1, hs2]
      clear hs1 hs2
      have hc := sub_k h h2 i hi hb (by omega) hle
      clear h h2 hst hle
      go_enter Tryz.func86, Tryz.ntmps86
      go_wp2_with fail
      refine hc.mono ?_
      rintro e w1 ⟨a1, n1, c1, rfl, s1, l1, b1⟩
      go_wp2
      go_ret2
      exact ⟨a1, n1, c1, rfl, s1, by omega, b1⟩
    · have hs1 : psg s t (val xs) (val ys) = t := by unfold psg; rw [if_neg hst, if_neg hle]
      have hs2 : pab s t (val xs) (val ys) = val ys - val xs := by unfold pab; rw [if_neg hst, if_neg hle]
      rw [hs1, hs2]
      clear hs1 hs2
      have hn := sub_no w ao bo n cap m bcap _ xs ys h h2 (by omega) (by omega) (by omega)
      have HC : Hid (∀ u, Below w.heap.size w u → Calls Tryz.prog 101 #[.slice bo m bcap, .slice ao n cap] u (Gt u i (toL (val ys - val xs)))) := fun u hu => sub_k (h2.later hu) (h.later hu) i hj hb (by omega) (by omega)
      clear h h2 hst hle
      go_enter Tryz.func86, Tryz.ntmps86
      go_wp2_with fail
      refine hn.mono ?_
      rintro e w1 ⟨rfl, hq⟩
      have h3 := hq.below w.heap.size
      clear hq
      go_wp2_with fail
      refine (HC.out w1 h3).mono ?_
      rintro e w2 ⟨a1, n1, c1, rfl, s1, l1, b1⟩
      go_wp2
      go_ret2
      exact ⟨a1, n1, c1, rfl, s1, by omega, h3.trans (b1.mono h3.size)⟩
end

/-- A bool and a row, as a tuple. -/
def VT (b : Bool) (C K : Nat) : Value → World → Prop := fun v u => ∃ ao n c, v = .tuple #[.bool b, .slice ao n c] ∧ Sl u.heap.size u ao n c (toL C) ∧ n ≤ K
theorem VT.lasts (b : Bool) (C K : Nat) : Lasts (VT b C K) := fun _ _ _ hb ⟨ao, n, c, h1, h2, h3⟩ => ⟨ao, n, c, h1, h2.later hb, h3⟩

/-- What a call leaves that hands back a Rat of the number q, not canonical. -/
def Gqr (w : World) (K : Nat) (q : Rat) (e : Ending) (w' : World) : Prop :=
  ∃ s no nn nc eo en ec, e = .returned (.agg #[.bool s, .slice no nn nc, .slice eo en ec]) ∧ Qn w' s no nn nc eo en ec q K ∧ Below w.heap.size w w'
theorem retr_store {fn : Func} {p : Tmp} {act : Act} {w u : World} {g K : Nat} {q : Rat} {s : Bool} {no : Option Addr} {nn nc : Nat} {eo : Option Addr} {en ec : Nat} (h : fn.results = #[.cell p 24]) (hp : act.tmps.getD p undef = .pointer (some ⟨g, 0, none⟩)) (hd : act.defers = [])
    (hb : Rb u g (.bool false) (.slice none 0 0) (.slice none 0 0)) (hg : w.heap.size ≤ g) (hc : Qn u s no nn nc eo en ec q K) (h5 : Below w.heap.size w u) :
    bodyPost Tryz.prog fn (Gqr w K q) .ret act (((u.setCell ⟨g, 0, none⟩ (.bool s)).setCell ⟨g, 1, none⟩ (.slice no nn nc)).setCell ⟨g, 2, none⟩ (.slice eo en ec)) := by
  have fr := Rb.putFr g u (.bool s) (.slice no nn nc) (.slice eo en ec)
  exact ret_rat h hp hd (hb.put _ _ _) ⟨s, no, nn, nc, eo, en, ec, rfl, hc.store hb fr, h5.trans (fr.below hg)⟩

theorem rq_add_den {s t b : Bool} {X U Y C : Nat} (hY : Y ≠ 0) (h : sg b C = sg s X + sg t U) : rq b C Y = rq s X Y + rq t U Y := by
  unfold rq
  rw [h, Rat.mkRat_add_mkRat _ _ hY hY, ← Int.add_mul, Rat.mkRat_mul_right hY]
theorem rq_add_any {s t b : Bool} {X Y U V C : Nat} (hY : Y ≠ 0) (hV : V ≠ 0) (h : sg b C = sg s (X * V) + sg t (U * Y)) : rq b C (Y * V) = rq s X Y + rq t U V := by
  unfold rq
  rw [h, Rat.mkRat_add_mkRat _ _ hY hV, show sg s (X * V) = sg s X * (V : Int) from by cases s <;> simp [sg, Int.natCast_mul, Int.neg_mul], show sg t (U * Y) = sg t U * (Y : Int) from by cases t <;> simp [sg, Int.natCast_mul, Int.neg_mul]]

section
variable {w : World} {s : Bool} {no : Option Addr} {nn nc : Nat} {eo : Option Addr} {en ec : Nat} {t : Bool} {mo : Option Addr} {mn mc : Nat} {fo : Option Addr} {fn fc : Nat} {K L : Nat} {q p : Rat}
set_option maxRecDepth 100000 in
set_option maxHeartbeats 4000000 in
theorem plus_k (h : Qn w s no nn nc eo en ec q K) (h' : Qn w t mo mn mc fo fn fc p L) (hK : K + L + 1 ≤ 17179869184) :
    Calls Tryz.prog 66 #[.agg #[.bool s, .slice no nn nc, .slice eo en ec], .agg #[.bool t, .slice mo mn mc, .slice fo fn fc]] w (Gqr w (K + L + 1) (q + p)) := by
  obtain ⟨w0, hw0, bx, by_, rs, b0⟩ := box3 w (.bool s) (.slice no nn nc) (.slice eo en ec) (.bool t) (.slice mo mn mc) (.slice fo fn fc)
  have h0 := h.later b0
  have h0' := h'.later b0
  clear h h'
  obtain ⟨g, hg⟩ : ∃ g, g = w.heap.size := ⟨_, rfl⟩
  have HG : Hid (w.heap.size = g) := hg.symm
  rw [← hg] at bx by_ rs
  obtain ⟨c0, c1, c2⟩ := bx.cells
  obtain ⟨d0, d1, d2⟩ := by_.cells
  go_enter Tryz.func66, Tryz.ntmps66
  go_wp2_with fail
  rw [← hw0, ← hg]
  clear hw0 hg
  refine (ratSign_k h0 (by omega)).mono ?_
  rintro e w1 ⟨rfl, b1⟩
  replace h0 := h0.later b1
  replace h0' := h0'.later b1
  replace bx := bx.later b1
  replace by_ := by_.later b1
  replace rs := rs.later b1
  have bb1 := b0.trans (b1.mono b0.size)
  clear c0 c1 c2 d0 d1 d2 b0 b1
  obtain ⟨c0, c1, c2⟩ := bx.cells
  obtain ⟨d0, d1, d2⟩ := by_.cells
  by_cases hq0 : q = 0
  · rw [qsgn_zero.2 hq0]
    have HQ : Hid (q + p = p) := by show q + p = p; rw [hq0, Rat.zero_add]
    clear hq0
    obtain ⟨r0, r1, r2⟩ := rs.cells
    have f0 := rs.free 0
    have f1 := rs.free 1
    have f2 := rs.free 2
    go_wp2
    rw [HQ.out]
    exact retr_store rfl rfl rfl rs (by rw [HG.out]; omega) (h0'.mono (by omega)) bb1
  · have hqb : (qsgn q == 0) = false := by rw [beq_eq_false_iff_ne]; exact fun e => hq0 (qsgn_zero.1 e)
    have Q0 : Hid (q ≠ 0) := hq0
    generalize qsgn q = z at hqb ⊢
    clear hq0
    go_wp2_with fail
    refine (ratSign_k h0' (by omega)).mono ?_
    rintro e w2 ⟨rfl, b1⟩
    replace h0 := h0.later b1
    replace h0' := h0'.later b1
    replace bx := bx.later b1
    replace by_ := by_.later b1
    replace rs := rs.later b1
    have bb2 := bb1.trans (b1.mono bb1.size)
    clear c0 c1 c2 d0 d1 d2 bb1 b1 hqb
    obtain ⟨c0, c1, c2⟩ := bx.cells
    obtain ⟨d0, d1, d2⟩ := by_.cells
    by_cases hp0 : p = 0
    · rw [qsgn_zero.2 hp0]
      have HQ : Hid (q + p = q) := by show q + p = q; rw [hp0, Rat.add_zero]
      clear hp0
      obtain ⟨r0, r1, r2⟩ := rs.cells
      have f0 := rs.free 0
      have f1 := rs.free 1
      have f2 := rs.free 2
      go_wp2
      rw [HQ.out]
      exact retr_store rfl rfl rfl rs (by rw [HG.out]; omega) (h0.mono (by omega)) bb2
    · have hpb : (qsgn p == 0) = false := by rw [beq_eq_false_iff_ne]; exact fun e => hp0 (qsgn_zero.1 e)
      have P0 : Hid (p ≠ 0) := hp0
      generalize qsgn p = z2 at hpb ⊢
      clear hp0
      obtain ⟨xs, ys, sx, sy, hq⟩ := h0.there
      obtain ⟨us, vs, su, sv, hp⟩ := h0'.there
      have l1 := h0.ln
      have l2 := h0.ld
      have l3 := h0'.ln
      have l4 := h0'.ld
      clear h0 h0'
      obtain ⟨X, hX⟩ : ∃ X, val xs = X := ⟨_, rfl⟩
      obtain ⟨Y, hY⟩ : ∃ Y, val ys = Y := ⟨_, rfl⟩
      obtain ⟨U, hU⟩ : ∃ U, val us = U := ⟨_, rfl⟩
      obtain ⟨V, hV⟩ : ∃ V, val vs = V := ⟨_, rfl⟩
      rw [hX, hY] at hq
      rw [hU, hV] at hp
      have HX : Hid _ := hX
      have HY : Hid _ := hY
      have HU : Hid _ := hU
      have HV : Hid _ := hV
      have HQ : Hid _ := hq
      have HP : Hid _ := hp
      have Y0 : Hid (Y ≠ 0) := fun e => Q0.out (by rw [← hq, e, rq_den0])
      have V0 : Hid (V ≠ 0) := fun e => P0.out (by rw [← hp, e, rq_den0])
      clear hX hY hU hV hq hp Q0 P0
      go_wp2_with fail
      refine (cmp_k sy sv (by omega) (by omega)).mono ?_
      rintro e w3 ⟨rfl, b1⟩
      replace sx := sx.later b1
      replace sy := sy.later b1
      replace su := su.later b1
      replace sv := sv.later b1
      replace bx := bx.later b1
      replace by_ := by_.later b1
      replace rs := rs.later b1
      have bb3 := bb2.trans (b1.mono bb2.size)
      clear c0 c1 c2 d0 d1 d2 bb2 b1 hpb
      obtain ⟨c0, c1, c2⟩ := bx.cells
      obtain ⟨d0, d1, d2⟩ := by_.cells
      rw [HY.out, HV.out]
      have hcm := cmp_same Y V
      by_cases hyv : Y = V
      · have hcb : (cmpN Y V == 0) = true := by rw [hcm]; simp [hyv]
        have HYV : Hid (Y = V) := hyv
        generalize cmpN Y V = cm at hcb ⊢
        clear hyv hcm
        go_wp2_with fail
        refine (plusSigned_k sx su (K + L) (by omega) (by omega) (by omega)).mono ?_
        rintro e w4 ⟨ro, rn, rc, rfl, sr, lr, lb⟩
        have HE : Hid _ := psg_pab s t (val xs) (val us)
        generalize psg s t (val xs) (val us) = b1 at *
        generalize pab s t (val xs) (val us) = C at *
        replace bx := bx.later lb
        replace by_ := by_.later lb
        replace rs := rs.later lb
        replace sy := sy.later lb
        have bb4 := bb3.trans (lb.mono bb3.size)
        clear c0 c1 c2 d0 d1 d2 bb3 lb
        obtain ⟨c0, c1, c2⟩ := bx.cells
        obtain ⟨r0, r1, r2⟩ := rs.cells
        have f0 := rs.free 0
        have f1 := rs.free 1
        have f2 := rs.free 2
        have HR : Hid (rq b1 C Y = q + p) := by
          show rq b1 C Y = q + p
          have he := HE.out
          rw [HX.out, HU.out] at he
          rw [← HQ.out, ← HP.out, ← HYV.out]
          exact rq_add_den Y0.out he
        clear HE
        go_wp2
        exact retr_store rfl rfl rfl rs (by rw [HG.out]; omega) ⟨⟨_, _, sr, sy, by rw [val_toL, HY.out]; exact HR.out⟩, by omega, by omega⟩ bb4
      · have hcb : (cmpN Y V == 0) = false := by rw [hcm]; simp [hyv]
        generalize cmpN Y V = cm at hcb ⊢
        clear hyv hcm
        go_wp2
        clear hcb c0 c1 c2 d0 d1 d2
        have hread := fun u (hu : Below w3.heap.size w3 u) => And.intro (bx.later hu).cells (by_.later hu).cells
        have HLst : Lst [VV (.pointer (some ⟨g, 0, none⟩)), VV (.bool s), VV (.pointer (some ⟨g, 1, none⟩)), VV (.slice no nn nc), VV (.pointer (some ⟨g + 1, 2, none⟩)), VV (.slice fo fn fc), VN (X * V) (K + L), VV (.pointer (some ⟨g + 1, 0, none⟩)), VV (.bool t), VV (.pointer (some ⟨g + 1, 1, none⟩)), VV (.slice mo mn mc), VV (.pointer (some ⟨g, 2, none⟩)), VV (.slice eo en ec), VN (U * Y) (K + L), VT (psg s t (X * V) (U * Y)) (pab s t (X * V) (U * Y)) (K + L + 1), VT (psg s t (X * V) (U * Y)) (pab s t (X * V) (U * Y)) (K + L + 1), VV (.bool (psg s t (X * V) (U * Y))), VN (pab s t (X * V) (U * Y)) (K + L + 1), VV (.bool (psg s t (X * V) (U * Y)))] := ⟨VV.lasts _, VV.lasts _, VV.lasts _, VV.lasts _, VV.lasts _, VV.lasts _, VN.lasts _ _, VV.lasts _, VV.lasts _, VV.lasts _, VV.lasts _, VV.lasts _, VV.lasts _, VN.lasts _ _, VT.lasts _ _ _, VT.lasts _ _ _, VV.lasts _, VN.lasts _ _, VV.lasts _, trivial⟩
        refine wp_region_kahn 19 69 [([], [2]), ([(0, 44)], []), ([], [2]), ([(2, 46)], []), ([], [3]), ([(4, 48)], []), ([(3, 47), (5, 49)], []), ([], [3]), ([(7, 51)], []), ([], [3]), ([(9, 53)], []), ([], [2]), ([(11, 55)], []), ([(10, 54), (12, 56)], []), ([(1, 45), (6, 50), (8, 52), (13, 57)], []), ([(14, 58)], []), ([(15, 43)], []), ([(15, 43)], []), ([(16, 59)], [])]
          (fun u => Below w3.heap.size w3 u) (fun u u' => Below u.heap.size u u')
          (Sp [VV (.pointer (some ⟨g, 0, none⟩)), VV (.bool s), VV (.pointer (some ⟨g, 1, none⟩)), VV (.slice no nn nc), VV (.pointer (some ⟨g + 1, 2, none⟩)), VV (.slice fo fn fc), VN (X * V) (K + L), VV (.pointer (some ⟨g + 1, 0, none⟩)), VV (.bool t), VV (.pointer (some ⟨g + 1, 1, none⟩)), VV (.slice mo mn mc), VV (.pointer (some ⟨g, 2, none⟩)), VV (.slice eo en ec), VN (U * Y) (K + L), VT (psg s t (X * V) (U * Y)) (pab s t (X * V) (U * Y)) (K + L + 1), VT (psg s t (X * V) (U * Y)) (pab s t (X * V) (U * Y)) (K + L + 1), VV (.bool (psg s t (X * V) (U * Y))), VN (pab s t (X * V) (U * Y)) (K + L + 1), VV (.bool (psg s t (X * V) (U * Y)))])
          (by kernel_rfl) rfl (by kernel_rfl) (Below.refl _ _).drew (fun k v u u' _ hg hs => Sp.lasts HLst k v u u' hg hs) ?_ ?_
        · refine ⟨.inl ⟨by simp, fun ρ u hC hc hf hd ho => ?_⟩, .inl ⟨by simp, fun ρ u hC hc hf hd ho => ?_⟩, .inl ⟨by simp, fun ρ u hC hc hf hd ho => ?_⟩, .inl ⟨by simp, fun ρ u hC hc hf hd ho => ?_⟩, .inl ⟨by simp, fun ρ u hC hc hf hd ho => ?_⟩, .inl ⟨by simp, fun ρ u hC hc hf hd ho => ?_⟩, .inl ⟨by simp, fun ρ u hC hc hf hd ho => ?_⟩, .inl ⟨by simp, fun ρ u hC hc hf hd ho => ?_⟩, .inl ⟨by simp, fun ρ u hC hc hf hd ho => ?_⟩, .inl ⟨by simp, fun ρ u hC hc hf hd ho => ?_⟩, .inl ⟨by simp, fun ρ u hC hc hf hd ho => ?_⟩, .inl ⟨by simp, fun ρ u hC hc hf hd ho => ?_⟩, .inl ⟨by simp, fun ρ u hC hc hf hd ho => ?_⟩, .inl ⟨by simp, fun ρ u hC hc hf hd ho => ?_⟩, .inl ⟨by simp, fun ρ u hC hc hf hd ho => ?_⟩, .inl ⟨by simp, fun ρ u hC hc hf hd ho => ?_⟩, .inl ⟨by simp, fun ρ u hC hc hf hd ho => ?_⟩, .inl ⟨by simp, fun ρ u hC hc hf hd ho => ?_⟩, .inl ⟨by simp, fun ρ u hC hc hf hd ho => ?_⟩, trivial⟩
          · have e2 : ρ (.tmp 2) = .pointer (some ⟨g, 0, none⟩) := ho 2 (by simp)
            refine Goes.pure (.pointer (some ⟨g, 0, none⟩)) ?_ ⟨hC, Below.refl _ _, rfl⟩
            unfold Goes
            go_simp
          · have e44 : ρ (.tmp 44) = .pointer (some ⟨g, 0, none⟩) := hd (0, 44) (by simp)
            obtain ⟨⟨c0, c1, c2⟩, d0, d1, d2⟩ := hread u hC
            refine Goes.pure (.bool s) ?_ ⟨hC, Below.refl _ _, rfl⟩
            unfold Goes
            go_simp
          · have e2 : ρ (.tmp 2) = .pointer (some ⟨g, 0, none⟩) := ho 2 (by simp)
            refine Goes.pure (.pointer (some ⟨g, 1, none⟩)) ?_ ⟨hC, Below.refl _ _, rfl⟩
            unfold Goes
            go_simp
          · have e46 : ρ (.tmp 46) = .pointer (some ⟨g, 1, none⟩) := hd (2, 46) (by simp)
            obtain ⟨⟨c0, c1, c2⟩, d0, d1, d2⟩ := hread u hC
            refine Goes.pure (.slice no nn nc) ?_ ⟨hC, Below.refl _ _, rfl⟩
            unfold Goes
            go_simp
          · have e3 : ρ (.tmp 3) = .pointer (some ⟨g + 1, 0, none⟩) := ho 3 (by simp)
            refine Goes.pure (.pointer (some ⟨g + 1, 2, none⟩)) ?_ ⟨hC, Below.refl _ _, rfl⟩
            unfold Goes
            go_simp
          · have e48 : ρ (.tmp 48) = .pointer (some ⟨g + 1, 2, none⟩) := hd (4, 48) (by simp)
            obtain ⟨⟨c0, c1, c2⟩, d0, d1, d2⟩ := hread u hC
            refine Goes.pure (.slice fo fn fc) ?_ ⟨hC, Below.refl _ _, rfl⟩
            unfold Goes
            go_simp
          · have e47 : ρ (.tmp 47) = .slice no nn nc := hd (3, 47) (by simp)
            have e49 : ρ (.tmp 49) = .slice fo fn fc := hd (5, 49) (by simp)
            refine Goes.call 46 #[.slice no nn nc, .slice fo fn fc] (by go_simp) ?_
            refine Calls.mono (mul_k (sx.later hC) (sv.later hC) K L l1 l4 (by omega) (by omega)) ?_
            rintro e u' ⟨ro, rn, rc, rfl, sr, lr, lb⟩
            exact ⟨_, rfl, hC.trans (lb.mono hC.size), lb, ⟨ro, rn, rc, rfl, by rw [HX.out, HV.out] at sr; exact sr, lr⟩⟩
          · have e3 : ρ (.tmp 3) = .pointer (some ⟨g + 1, 0, none⟩) := ho 3 (by simp)
            refine Goes.pure (.pointer (some ⟨g + 1, 0, none⟩)) ?_ ⟨hC, Below.refl _ _, rfl⟩
            unfold Goes
            go_simp
          · have e51 : ρ (.tmp 51) = .pointer (some ⟨g + 1, 0, none⟩) := hd (7, 51) (by simp)
            obtain ⟨⟨c0, c1, c2⟩, d0, d1, d2⟩ := hread u hC
            refine Goes.pure (.bool t) ?_ ⟨hC, Below.refl _ _, rfl⟩
            unfold Goes
            go_simp
          · have e3 : ρ (.tmp 3) = .pointer (some ⟨g + 1, 0, none⟩) := ho 3 (by simp)
            refine Goes.pure (.pointer (some ⟨g + 1, 1, none⟩)) ?_ ⟨hC, Below.refl _ _, rfl⟩
            unfold Goes
            go_simp
          · have e53 : ρ (.tmp 53) = .pointer (some ⟨g + 1, 1, none⟩) := hd (9, 53) (by simp)
            obtain ⟨⟨c0, c1, c2⟩, d0, d1, d2⟩ := hread u hC
            refine Goes.pure (.slice mo mn mc) ?_ ⟨hC, Below.refl _ _, rfl⟩
            unfold Goes
            go_simp
          · have e2 : ρ (.tmp 2) = .pointer (some ⟨g, 0, none⟩) := ho 2 (by simp)
            refine Goes.pure (.pointer (some ⟨g, 2, none⟩)) ?_ ⟨hC, Below.refl _ _, rfl⟩
            unfold Goes
            go_simp
          · have e55 : ρ (.tmp 55) = .pointer (some ⟨g, 2, none⟩) := hd (11, 55) (by simp)
            obtain ⟨⟨c0, c1, c2⟩, d0, d1, d2⟩ := hread u hC
            refine Goes.pure (.slice eo en ec) ?_ ⟨hC, Below.refl _ _, rfl⟩
            unfold Goes
            go_simp
          · have e54 : ρ (.tmp 54) = .slice mo mn mc := hd (10, 54) (by simp)
            have e56 : ρ (.tmp 56) = .slice eo en ec := hd (12, 56) (by simp)
            refine Goes.call 46 #[.slice mo mn mc, .slice eo en ec] (by go_simp) ?_
            refine Calls.mono (mul_k (su.later hC) (sy.later hC) L K l3 l2 (by omega) (by omega)) ?_
            rintro e u' ⟨ro, rn, rc, rfl, sr, lr, lb⟩
            exact ⟨_, rfl, hC.trans (lb.mono hC.size), lb, ⟨ro, rn, rc, rfl, by rw [HU.out, HY.out] at sr; exact sr, by omega⟩⟩
          · have e45 : ρ (.tmp 45) = .bool s := hd (1, 45) (by simp)
            obtain ⟨o50, n50, c50, e50, k50, j50⟩ : VN (X * V) (K + L) (ρ (.tmp 50)) u := hd (6, 50) (by simp)
            have e52 : ρ (.tmp 52) = .bool t := hd (8, 52) (by simp)
            obtain ⟨o57, n57, c57, e57, k57, j57⟩ : VN (U * Y) (K + L) (ρ (.tmp 57)) u := hd (13, 57) (by simp)
            refine Goes.call 86 #[.bool s, .slice o50 n50 c50, .bool t, .slice o57 n57 c57] (by go_simp) ?_
            refine Calls.mono (plusSigned_k k50 k57 (K + L) j50 j57 (by omega)) ?_
            rintro e u' ⟨ro, rn, rc, rfl, sr, lr, lb⟩
            exact ⟨_, rfl, hC.trans (lb.mono hC.size), lb, ⟨ro, rn, rc, by rw [val_toL, val_toL], by rw [val_toL, val_toL] at sr; exact sr, lr⟩⟩
          · obtain ⟨o58, n58, c58, e58, k58, j58⟩ : VT (psg s t (X * V) (U * Y)) (pab s t (X * V) (U * Y)) (K + L + 1) (ρ (.tmp 58)) u := hd (14, 58) (by simp)
            refine Goes.pure (.tuple #[.bool (psg s t (X * V) (U * Y)), .slice o58 n58 c58]) ?_ ⟨hC, Below.refl _ _, ⟨o58, n58, c58, rfl, k58, j58⟩⟩
            unfold Goes
            go_simp
          · obtain ⟨o43, n43, c43, e43, k43, j43⟩ : VT (psg s t (X * V) (U * Y)) (pab s t (X * V) (U * Y)) (K + L + 1) (ρ (.tmp 43)) u := hd (15, 43) (by simp)
            refine Goes.pure (.bool (psg s t (X * V) (U * Y))) ?_ ⟨hC, Below.refl _ _, rfl⟩
            unfold Goes
            go_simp
          · obtain ⟨o43, n43, c43, e43, k43, j43⟩ : VT (psg s t (X * V) (U * Y)) (pab s t (X * V) (U * Y)) (K + L + 1) (ρ (.tmp 43)) u := hd (15, 43) (by simp)
            refine Goes.pure (.slice o43 n43 c43) ?_ ⟨hC, Below.refl _ _, ⟨o43, n43, c43, rfl, k43, j43⟩⟩
            unfold Goes
            go_simp
          · have e59 : ρ (.tmp 59) = .bool (psg s t (X * V) (U * Y)) := hd (16, 59) (by simp)
            refine Goes.pure (.bool (psg s t (X * V) (U * Y))) ?_ ⟨hC, Below.refl _ _, rfl⟩
            unfold Goes
            go_simp
        · intro vs u hC hv
          obtain ⟨ro, rn, rc, e60, sr, lr⟩ : VN (pab s t (X * V) (U * Y)) (K + L + 1) (vs 17) u := hv 17 (by omega)
          have e59 : vs 16 = .bool (psg s t (X * V) (U * Y)) := hv 16 (by omega)
          have e7 : vs 18 = .bool (psg s t (X * V) (U * Y)) := hv 18 (by omega)
          have HE : Hid _ := psg_pab s t (X * V) (U * Y)
          generalize psg s t (X * V) (U * Y) = b1 at *
          generalize pab s t (X * V) (U * Y) = C at *
          replace bx := bx.later hC
          replace by_ := by_.later hC
          replace rs := rs.later hC
          replace sy := sy.later hC
          replace sv := sv.later hC
          have bb4 := bb3.trans (hC.mono bb3.size)
          obtain ⟨c0, c1, c2⟩ := bx.cells
          obtain ⟨d0, d1, d2⟩ := by_.cells
          simp only [puts, List.take, List.drop, Act.put, List.setIfInBounds_toArray, List.set_cons_succ, List.set_cons_zero, Nat.reduceAdd, e59, e60, e7]
          clear hv hread hC
          go_wp2_with fail
          refine (mul_k sy sv K L l2 l4 (by omega) (by omega)).mono ?_
          rintro e w5 ⟨a5, n5, c5, rfl, s5, l5, lb⟩
          rw [HY.out, HV.out] at s5
          replace sr := sr.later lb
          replace rs := rs.later lb
          have bb5 := bb4.trans (lb.mono bb4.size)
          obtain ⟨r0, r1, r2⟩ := rs.cells
          have f0 := rs.free 0
          have f1 := rs.free 1
          have f2 := rs.free 2
          have HR : Hid (rq b1 C (Y * V) = q + p) := by
            show rq b1 C (Y * V) = q + p
            rw [← HQ.out, ← HP.out]
            exact rq_add_any Y0.out V0.out HE.out
          go_wp2
          exact retr_store rfl rfl rfl rs (by rw [HG.out]; omega) ⟨⟨_, _, sr, s5, by rw [val_toL, val_toL]; exact HR.out⟩, lr, by omega⟩ bb5
end
end Go.Proofs.YtbobhhnhlgdkiaaGreat
