/- nat.divByLimb, shiftedDown. -/
import Derived.Test.YtbobhhnhlgdkiaaGreatJ2
import Derived.Deep.RegionWith
namespace Go.Proofs.YtbobhhnhlgdkiaaGreat
open Go.RowKit M
set_option maxRecDepth 100000

theorem or_join {r x : Nat} (hr : r < 4294967296) (hx : x < 4294967296) : Go.bits .or .u64 ((r : Int) * 4294967296) (x : Int) = ((r * 4294967296 + x : Nat) : Int) := by
  rw [show (r : Int) * 4294967296 = ((r * 4294967296 : Nat) : Int) from by omega, u64_or_nat _ _ (by omega) (by omega), nat_join 32 (r * 4294967296) x (by omega) (by omega)]

/-- A new row of zeros, one block behind w. -/
theorem fresh (w : World) (n : Nat) : ∃ w2, w2 = w.alloc (.cells (u32s (List.replicate n 0)) 86) ∧ Below w.heap.size w w2 ∧ Own w2 w.heap.size (List.replicate n 0) ∧ w2.heap.size = w.heap.size + 1 :=
  ⟨_, rfl, (Below.refl _ _).alloc (Nat.le_refl _) _, Own.alloc _ _, by simp⟩

set_option maxHeartbeats 1000000 in
theorem divByLimb_any (w : World) (ao : Option Addr) (n cap b : Nat) (xs : List Nat) (h : Sl w.heap.size w ao n cap xs) (hlen : n ≤ 1099511627775) (hb0 : 0 < b) (hb1 : b < 4294967296) :
    Calls Tryz.prog 107 #[.slice ao n cap, .int .u32 (b : Int)] w fun e w' => ∃ ro rn rc, e = .returned (.tuple #[.slice ro rn rc, .int .u32 ((val xs % b : Nat) : Int)]) ∧ Sl w'.heap.size w' ro rn rc (toL (val xs / b)) ∧ Below w.heap.size w w' := by
  have hmk := fun u => make_run n (by omega) u
  obtain ⟨w2, hw2, hbl, how, hz0⟩ := fresh w n
  go_enter Tryz.func107, Tryz.ntmps107
  go_wp2
  rw [← hw2]
  have u1 := h.below hbl
  obtain ⟨g, hg⟩ : ∃ g, g = w.heap.size := ⟨_, rfl⟩
  rw [← hg] at how hz0 u1 hbl ⊢
  have HG : Hid (g = w.heap.size) := hg
  clear hmk hg hw2
  go_loopw [7, 8] (fun rv iv wr => ∃ k r q, k ≤ n ∧ rv = .int .u64 ((r : Nat) : Int) ∧ iv = .int .i64 (((k : Nat) : Int) - 1) ∧ Fr g w2 wr ∧ Own wr g q ∧ DivInv n q xs b k r) (fun _ iv _ => (intOf iv + 1).toNat)
  case atStart => exact ⟨n, 0, _, Nat.le_refl _, rfl, rfl, Fr.refl _ _, how, DivInv.start h.len hb0⟩
  case round =>
    obtain ⟨k, r, q, hk, rfl, rfl, hf, hs, hi⟩ := hrel
    have hr := hi.rest
    by_cases h0 : k = 0
    · subst h0
      obtain ⟨e1, e2⟩ := hi.done
      have HD : Hid (val q = val xs / b ∧ r = val xs % b) := ⟨e1, e2⟩
      clear e1 e2
      go_wp2_with fail
      refine (trimmed_any (g + 1) _ _ n n q (Sl.own hs hi.lim (by omega) n n hi.len (Nat.le_refl _)) (by omega)).mono ?_
      rintro e w3 ⟨rfl, a3, n3, c3, rfl, s3, l3⟩
      go_wp2
      go_ret2
      rw [HD.out.1] at s3
      rw [← HD.out.2]
      have hg := HG.out
      refine ⟨a3, n3, c3, rfl, by rw [hf.size, hz0]; exact s3, ?_⟩
      rw [← hg]
      exact hbl.trans (hf.below (Nat.le_refl _))
    · obtain ⟨j, rfl⟩ : ∃ j, k = j + 1 := ⟨k - 1, by omega⟩
      rw [show ((j + 1 : Nat) : Int) - 1 = (j : Int) from by omega]
      obtain ⟨b', o, x, rfl, hx0, hx1, hx2, HX⟩ := (u1.fr hf (Nat.le_refl _)).cell j (by omega)
      have hl := hi.len
      have hcl := hs.cell (i := j) (by omega)
      have hfr := hs.free j
      generalize q.getD j 0 = old at hcl
      obtain ⟨st1, st2⟩ := hi.step h.len (by omega) hb1 HX.out hx2
      have hj := or_join (r := r) (x := x) (by omega) hx2
      have ST : Hid _ := st2
      have hq0 : (0 : Int) ≤ ((r * 4294967296 + x : Nat) : Int) / (b : Int) := Int.ediv_nonneg (by omega) (by omega)
      have hq1 : ((r * 4294967296 + x : Nat) : Int) / (b : Int) < 4294967296 := by rw [← Int.natCast_ediv]; omega
      have ev : ((r : Int) * 4294967296 + (x : Int)) / (b : Int) % 4294967296 = (((r * 4294967296 + x) / b : Nat) : Int) := by
        rw [show (r : Int) * 4294967296 + (x : Int) = ((r * 4294967296 + x : Nat) : Int) from by omega, ← Int.natCast_ediv]; omega
      have er : ((r : Int) * 4294967296 + (x : Int)) % (b : Int) = (((r * 4294967296 + x) % b : Nat) : Int) := by
        rw [show (r : Int) * 4294967296 + (x : Int) = ((r * 4294967296 + x : Nat) : Int) from by omega, ← Int.natCast_emod]
      have EV : Hid _ := ev
      have ER : Hid _ := er
      clear st1 st2 hl ev er
      go_wp2
      rw [EV.out, ER.out]
      go_roundw
      case rel => exact ⟨j, _, _, by omega, rfl, rfl, hf.set _ _, hs.set j _, ST.out⟩
      case measure => simp [intOf]

theorem or_join_wrap {r x : Nat} (hx : x < 4294967296) : Go.bits .or .u64 (IntKind.u64.wrap ((r : Int) * 4294967296)) (x : Int) = ((r % 4294967296 * 4294967296 + x : Nat) : Int) := by
  rw [IntKind.wrap_u64, show (r : Int) * 4294967296 % 18446744073709551616 = ((r % 4294967296 : Nat) : Int) * 4294967296 from by omega]
  exact or_join (by omega) hx

set_option maxHeartbeats 1000000 in
theorem shiftedDown_any (w : World) (ao : Option Addr) (n cap d : Nat) (xs : List Nat) (h : Sl w.heap.size w ao n cap xs) (hlen : n ≤ 1099511627775) (hd : d < 32) :
    Calls Tryz.prog 117 #[.slice ao n cap, .int .i64 (d : Int)] w (Gives w (toL (val xs / 2 ^ d))) := by
  have hmk := fun u => make_run n (by omega) u
  obtain ⟨w2, hw2, hbl, how, hz0⟩ := fresh w n
  go_enter Tryz.func117, Tryz.ntmps117
  go_wp2
  rw [← hw2]
  have u1 := h.below hbl
  obtain ⟨g, hg⟩ : ∃ g, g = w.heap.size := ⟨_, rfl⟩
  rw [← hg] at how hz0 u1 hbl ⊢
  have HG : Hid (g = w.heap.size) := hg
  clear hmk hg hw2
  go_loopw [6, 7] (fun tv iv wr => ∃ k t q, k ≤ n ∧ tv = .int .u64 ((t : Nat) : Int) ∧ t < 18446744073709551616 ∧ t % 4294967296 = xs.getD k 0 ∧ iv = .int .i64 (((k : Nat) : Int) - 1) ∧ Fr g w2 wr ∧ Own wr g q ∧ DnInv n q xs (2 ^ d) k) (fun _ iv _ => (intOf iv + 1).toNat)
  case atStart => exact ⟨n, 0, _, Nat.le_refl _, rfl, by omega, by rw [getD_beyond (by rw [h.len]; exact Nat.le_refl _)], rfl, Fr.refl _ _, how, DnInv.start h.len⟩
  case round =>
    obtain ⟨k, t, q, hk, rfl, ht, htx, rfl, hf, hs, hi⟩ := hrel
    have HT : Hid (t % 4294967296 = xs.getD k 0) := htx
    clear htx
    by_cases h0 : k = 0
    · subst h0
      have HD : Hid (val q = val xs / 2 ^ d) := hi.done
      go_wp2_with fail
      refine (trimmed_any (g + 1) _ _ n n q (Sl.own hs hi.lim (by omega) n n hi.len (Nat.le_refl _)) (by omega)).mono ?_
      rintro e w3 ⟨rfl, a3, n3, c3, rfl, s3, l3⟩
      go_wp2
      go_ret
      rw [HD.out] at s3
      have hg := HG.out
      refine ⟨a3, n3, c3, rfl, by rw [hf.size, hz0]; exact s3, ?_⟩
      rw [← hg]
      exact hbl.trans (hf.below (Nat.le_refl _))
    · obtain ⟨j, rfl⟩ : ∃ j, k = j + 1 := ⟨k - 1, by omega⟩
      rw [show ((j + 1 : Nat) : Int) - 1 = (j : Int) from by omega]
      obtain ⟨b', o, x, rfl, hx0, hx1, hx2, HX⟩ := (u1.fr hf (Nat.le_refl _)).cell j (by omega)
      have hl := hi.len
      have hcl := hs.cell (i := j) (by omega)
      have hfr := hs.free j
      generalize q.getD j 0 = old at hcl
      have st := hi.step (e := 2 ^ (32 - d)) (t := t % 4294967296) h.len h.lim (by omega) (by rw [← Nat.pow_add, show d + (32 - d) = 32 from by omega]) HX.out HT.out
      have hj := or_join_wrap (r := t) (x := x) hx2
      have ST : Hid _ := st
      have et : (t : Int) % 4294967296 * 4294967296 + (x : Int) = ((t % 4294967296 * 4294967296 + x : Nat) : Int) := by omega
      have ev : ((t % 4294967296 * 4294967296 + x : Nat) : Int) / 2 ^ d % 4294967296 = (((t % 4294967296 * 4294967296 + x) / 2 ^ d % 4294967296 : Nat) : Int) := by
        rw [show (2 : Int) ^ d = ((2 ^ d : Nat) : Int) from by rw [Int.natCast_pow]; rfl, ← Int.natCast_ediv]; omega
      have ET : Hid _ := et
      have EV : Hid _ := ev
      clear st hl et ev
      go_wp2
      rw [ET.out, EV.out]
      go_roundw
      case rel => exact ⟨j, _, _, by omega, rfl, by omega, by rw [← HX.out]; omega, rfl, hf.set _ _, hs.set j _, ST.out⟩
      case measure => simp [intOf]

end Go.Proofs.YtbobhhnhlgdkiaaGreat

/- nat.guess. -/
namespace Go.Proofs.YtbobhhnhlgdkiaaGreat
open Go.RowKit M
set_option maxRecDepth 100000

set_option maxHeartbeats 2000000 in
theorem guess_any (w : World) (ao bo : Option Addr) (n cap bcap N : Nat) (ls ds : List Nat) (h : Sl N w ao (n + 3) cap ls) (h2 : Sl N w bo (n + 2) bcap ds) (hn : n ≤ 1099511627776)
    (htop : 2147483648 ≤ ds.getD (n + 1) 0) (huv : val ls < 4294967296 * val ds) :
    Calls Tryz.prog 119 #[.slice ao (n + 3) cap, .slice bo (n + 2) bcap] w fun e w' => ∃ q : Nat, e = .returned (.int .u32 (q : Int)) ∧ q < 4294967296 ∧ val ls / val ds ≤ q ∧ q ≤ val ls / val ds + 1 ∧ Qt w w' := by
  have G := Gs.mk' h.lim h2.lim h.len h2.len htop huv
  obtain ⟨b, o, x2, hao, hb, cx2, lx2, HX2⟩ := h.cell (n + 2) (by omega)
  obtain ⟨_, _, x1, e1, _, cx1, lx1, HX1⟩ := h.cell (n + 1) (by omega)
  obtain ⟨_, _, x0, e0, _, cx0, lx0, HX0⟩ := h.cell n (by omega)
  obtain ⟨b', o', y1, hbo, hb', cy1, ly1, HY1⟩ := h2.cell (n + 1) (by omega)
  obtain ⟨_, _, y0, e0', _, cy0, ly0, HY0⟩ := h2.cell n (by omega)
  subst hao
  subst hbo
  simp only [Option.some.injEq, Addr.mk.injEq, and_true] at e1 e0 e0'
  obtain ⟨rfl, rfl⟩ := e1
  obtain ⟨rfl, rfl⟩ := e0
  obtain ⟨rfl, rfl⟩ := e0'
  rw [← HX2.out, ← HX1.out, ← HX0.out, ← HY1.out, ← HY0.out] at G
  rw [← HY1.out] at htop
  have GG : Hid _ := G
  clear G h h2 huv
  have cx1' : w.cell? ⟨b, o + (n + 2 - 1), none⟩ = some (.int .u32 (x1 : Int)) := cx1
  have cx0' : w.cell? ⟨b, o + (n + 2 - 2), none⟩ = some (.int .u32 (x0 : Int)) := cx0
  have cy1' : w.cell? ⟨b', o' + (n + 2 - 1), none⟩ = some (.int .u32 (y1 : Int)) := cy1
  have cy0' : w.cell? ⟨b', o' + (n + 2 - 2), none⟩ = some (.int .u32 (y0 : Int)) := cy0
  have hj := or_join (r := x2) (x := x1) lx2 lx1
  go_enter Tryz.func119, Tryz.ntmps119
  go_wp2
  go_quiet (fail)
  go_wp2
  refine wp_region_quiet_lit (by kernel_rfl) (by kernel_rfl) ?_
  repeat (first | go_big_quiet_step (fail) | quiet_step (fail))
  refine wpQuiet_nil ?_
  intro _ hw'
  obtain ⟨nq2, hw''⟩ := hw'
  subst hw''
  go_wp2
  have hy1 : (1 : Int) ≤ (y1 : Int) := by omega
  have hyb : ((y1 : Int) == 0) = false := by simp; omega
  refine wp_region_quiet_lit (by kernel_rfl) (by kernel_rfl) ?_
  repeat (first | go_big_quiet_step (fail) | quiet_step (fail))
  refine wpQuiet_nil ?_
  intro _ hw'
  obtain ⟨nq3, hw''⟩ := hw'
  subst hw''
  go_wp2
  have hq : Qt w (((w.drewN nq).drewN nq2).drewN nq3) := ((Qt.refl w).drewN _).drewN _ |>.drewN _
  have c0 : (((w.drewN nq).drewN nq2).drewN nq3).cell? ⟨b, o + (n + 2 - 2), none⟩ = some (.int .u32 (x0 : Int)) := cx0'
  have c0' : (((w.drewN nq).drewN nq2).drewN nq3).cell? ⟨b, o + n, none⟩ = some (.int .u32 (x0 : Int)) := cx0'
  generalize ((w.drewN nq).drewN nq2).drewN nq3 = W at hq c0 c0' ⊢
  clear cx2 cx1 cx0 cy1 cy0 cx1' cx0' cy1' cy0' hj
  have eq0 : ((x2 : Int) * 4294967296 + x1) / y1 = (((x1 + 4294967296 * x2) / y1 : Nat) : Int) := by
    rw [Int.natCast_ediv]; congr 1; omega
  have er0 : ((x2 : Int) * 4294967296 + x1) % y1 = (((x1 + 4294967296 * x2) % y1 : Nat) : Int) := by
    rw [Int.natCast_emod]; congr 1; omega
  go_loop [9, 10] (fun qv rv => ∃ q r : Nat, qv = .int .u64 (q : Int) ∧ rv = .int .u64 (r : Int) ∧ GsInv (x1 + 4294967296 * x2) y1 (val ls / val ds) q r) (fun _ rv => 4294967296 - (intOf rv).toNat)
  case atStart => exact ⟨_, _, congrArg _ eq0, congrArg _ er0, GG.out.start⟩
  case round =>
    clear eq0 er0
    obtain ⟨q, r, rfl, rfl, hi⟩ := hrel
    have hql := hi.le
    have hrl := hi.hr
    by_cases hqB : 4294967296 ≤ q
    · have hg : ((q : Int) / 4294967296 != 0) = true := by rw [bne_iff_ne]; omega
      obtain ⟨l1, l2⟩ := GG.out.less hi (.inl hqB)
      have hq1 : 1 ≤ q := by omega
      have L1 : Hid _ := l1
      have L2 : Hid _ := l2
      clear l1 l2
      by_cases hbr : 4294967296 ≤ r + y1
      · have hg2 : (((r : Int) + y1) / 4294967296 != 0) = true := by rw [bne_iff_ne]; omega
        obtain ⟨f1, f2⟩ := GG.out.broke L2.out hbr
        have F2 : Hid _ := f2
        clear f2
        go_wp2
        go_ret
        exact ⟨q - 1, ret1 (by omega), f1, by have := L1.out; omega, F2.out, hq⟩
      · have hg2 : (((r : Int) + y1) / 4294967296 != 0) = false := by simp; omega
        go_wp2
        go_round
        case rel => exact ⟨q - 1, r + y1, by go_num, by go_num, ⟨L2.out, by have := L1.out; omega, by omega, by omega⟩⟩
        case measure => simp [intOf]; omega
    · have hg : ((q : Int) / 4294967296 != 0) = false := by simp; omega
      have hp0 : (0 : Int) ≤ (q : Int) * (y0 : Int) := by rw [← Int.natCast_mul]; omega
      have hp1 : (q : Int) * (y0 : Int) ≤ 18446744065119617025 := by have := mul_bound (q := q) (by omega) ly0; rw [← Int.natCast_mul]; omega
      have hj := or_join (r := r) (x := x0) hrl lx0
      by_cases ht : r * 4294967296 + x0 < q * y0
      · obtain ⟨l1, l2⟩ := GG.out.less hi (.inr ht)
        have htb : decide (((r * 4294967296 + x0 : Nat) : Int) < (q : Int) * (y0 : Int)) = true := by simp only [decide_eq_true_eq]; rw [← Int.natCast_mul]; omega
        have htb' : decide ((r : Int) * 4294967296 + (x0 : Int) < (q : Int) * (y0 : Int)) = true := by simp only [decide_eq_true_eq]; rw [← Int.natCast_mul]; omega
        have hq1 : 1 ≤ q := Nat.lt_of_le_of_lt (Nat.zero_le _) l1
        have L1 : Hid _ := l1
        have L2 : Hid _ := l2
        clear l1 l2 ht
        by_cases hbr : 4294967296 ≤ r + y1
        · have hg2 : (((r : Int) + y1) / 4294967296 != 0) = true := by rw [bne_iff_ne]; omega
          obtain ⟨f1, f2⟩ := GG.out.broke L2.out hbr
          have F2 : Hid _ := f2
          clear f2
          go_wp2
          go_ret
          exact ⟨q - 1, ret1 (by omega), f1, by have := L1.out; omega, F2.out, hq⟩
        · have hg2 : (((r : Int) + y1) / 4294967296 != 0) = false := by simp; omega
          go_wp2
          go_round
          case rel => exact ⟨q - 1, r + y1, by go_num, by go_num, ⟨L2.out, by have := L1.out; omega, by omega, by omega⟩⟩
          case measure => simp [intOf]; omega
      · have htb : decide ((r : Int) * 4294967296 + (x0 : Int) < (q : Int) * (y0 : Int)) = false := by simp only [decide_eq_false_iff_not]; rw [← Int.natCast_mul]; omega
        have F2 : Hid (q ≤ val ls / val ds + 1) := GG.out.fine hi.eq (by omega) (by omega)
        clear ht
        go_wp2
        go_ret
        exact ⟨q, ret1 rfl, by omega, hi.ge, F2.out, hq⟩

end Go.Proofs.YtbobhhnhlgdkiaaGreat

/- nat.subProduct, divStep. -/
namespace Go.Proofs.YtbobhhnhlgdkiaaGreat
open Go.RowKit M
set_option maxRecDepth 100000

set_option maxHeartbeats 1000000 in
theorem subProduct_any (w : World) (g o m cap : Nat) (pre s post : List Nat) (bo : Option Addr) (bcap N q : Nat) (ys : List Nat)
    (h : Sg w g o (m + 1) pre s post) (hb : Sl N w bo m bcap ys) (hN : N ≤ g) (hn : m ≤ 1099511627776) (hq : q < 4294967296) :
    Calls Tryz.prog 120 #[.slice (some ⟨g, o, none⟩) (m + 1) cap, .slice bo m bcap, .int .u32 (q : Int)] w fun e w' => ∃ (b : Nat) (s' : List Nat), e = .returned (.bool ((b : Int) != 0)) ∧ b ≤ 1 ∧ Fr g w w' ∧ Sg w' g o (m + 1) pre s' post ∧ val s' + q * val ys = val s + Bp (m + 1) * b := by
  go_enter Tryz.func120, Tryz.ntmps120
  go_wp2
  go_loopw [7, 8, 13] (fun cv bv iv wr => ∃ k c b s', k ≤ m ∧ cv = .int .u64 ((c : Nat) : Int) ∧ bv = .int .u32 ((b : Nat) : Int) ∧ iv = .int .i64 ((k : Nat) : Int) ∧ Fr g w wr ∧ Sg wr g o (m + 1) pre s' post ∧ SpInv s s' ys q k c b) (fun _ _ iv _ => m - (intOf iv).toNat)
  case atStart => exact ⟨0, 0, 0, s, Nat.zero_le _, rfl, rfl, rfl, Fr.refl _ _, h, SpInv.start _ h.lim⟩
  case round =>
    obtain ⟨k, c, b, s', hk, rfl, rfl, rfl, hf, hs, hi⟩ := hrel
    have hc1 := hi.car
    have hb1 := hi.bor
    by_cases hlt : k < m
    · obtain ⟨x, hx1, hx2, hx3, HX⟩ := hs.cell k (by omega)
      obtain ⟨b', p, y, rfl, hy0, hy1, hy2, HY⟩ := (hb.fr hf hN).cell k hlt
      have hp0 : (0 : Int) ≤ (q : Int) * (y : Int) := by rw [← Int.natCast_mul]; omega
      have hp1 : (q : Int) * (y : Int) ≤ 18446744065119617025 := by have := mul_bound hq hy2; rw [← Int.natCast_mul]; omega
      go_wp2_with (go_at_call 111; refine (sub32_any _ _ _ _ (by omega) (by omega) (by omega) (by omega) (by omega) (by omega)).mono ?_; rintro e w' ⟨rfl, rfl⟩)
      have em : ((c : Int) + (q : Int) * y) % 4294967296 = (((c + q * y) % 4294967296 : Nat) : Int) := by rw [← Int.natCast_mul]; omega
      have ec : ((c : Int) + (q : Int) * y) / 4294967296 = (((c + q * y) / 4294967296 : Nat) : Int) := by rw [← Int.natCast_mul]; omega
      obtain ⟨v, b2, ev, eb, hv, hb2, he⟩ := sub_step (x := x) (y := (c + q * y) % 4294967296) hx3 (by omega) hb1
      rw [em, ec, ev, eb]
      go_roundw
      case rel => exact ⟨k + 1, (c + q * y) / 4294967296, b2, s'.set k v, by omega, rfl, rfl, by go_num, hf.set _ _, hs.set (by omega) hv,
        hi.step (by rw [h.len]; omega) hq (hb.lim.getD k) hv hb2 (by rw [← HY.out]) (by rw [← HY.out, ← HX.out]; exact he)⟩
      case measure => simp [intOf]; omega
    · obtain rfl : k = m := by omega
      obtain ⟨x, hx1, hx2, hx3, HX⟩ := hs.cell k (by omega)
      go_wp2_with (go_at_call 111; refine (sub32_any _ _ _ _ (by omega) (by omega) (by omega) (by omega) (by omega) (by omega)).mono ?_; rintro e w' ⟨rfl, rfl⟩)
      obtain ⟨v, b2, ev, eb, hv, hb2, he⟩ := sub_step (x := x) (y := c) hx3 (by omega) hb1
      rw [ev, eb]
      go_ret
      exact ⟨b2, s'.set k v, rfl, hb2, hf.set _ _, hs.set (by omega) hv, hi.last h.len hb.len (by rw [← HX.out]; exact he)⟩

set_option maxHeartbeats 1000000 in
theorem divStep_any (w : World) (g o n cap : Nat) (pre s post : List Nat) (bo : Option Addr) (bcap N : Nat) (ds : List Nat)
    (h : Sg w g o (n + 3) pre s post) (hb : Sl N w bo (n + 2) bcap ds) (hN : N ≤ g) (hn : n ≤ 1099511627770) (hcap : n + 3 ≤ cap) (htop : 2147483648 ≤ ds.getD (n + 1) 0) (huv : val s < 4294967296 * val ds) :
    Calls Tryz.prog 116 #[.slice (some ⟨g, o, none⟩) (n + 3) cap, .slice bo (n + 2) bcap] w fun e w' => ∃ (q : Nat) (s' : List Nat), e = .returned (.int .u32 (q : Int)) ∧ q < 4294967296 ∧ q = val s / val ds ∧ Fr g w w' ∧ Sg w' g o (n + 3) pre s' post ∧ val s' = val s % val ds := by
  have hv0 : 0 < val ds := by omega
  go_enter Tryz.func116, Tryz.ntmps116
  go_wp2_with fail
  refine (guess_any w _ bo n cap bcap (g + 1) s ds (h.read (by omega) cap hcap) (hb.mono (by omega)) (by omega) htop huv).mono ?_
  rintro e w1 ⟨q, rfl, hq, hq1, hq2, hqt⟩
  have H1 : Hid (val s / val ds ≤ q) := hq1
  have H2 : Hid (q ≤ val s / val ds + 1) := hq2
  clear hq1 hq2
  have h1 := h.qt hqt
  have hb1 := hqt.sl hb
  go_wp2_with fail
  refine (subProduct_any w1 g o (n + 2) cap pre s post bo bcap N q ds h1 hb1 hN (by omega) hq).mono ?_
  rintro e w2 ⟨b, s2, rfl, hb01, hf2, hs2, he2⟩
  have E2 : Hid _ := he2
  clear he2
  have ht2 : val s2 < Bp (n + 3) := by have := val_lt hs2.lim; rwa [hs2.len] at this
  have T2 : Hid _ := ht2
  clear ht2
  have hfr : Fr g w w2 := (Fr.refl g w).qt hqt |>.trans hf2
  by_cases hb0 : b = 0
  · have hbb : ((b : Int) != 0) = false := by simp [hb0]
    obtain ⟨r1, r2⟩ := step_yes H1.out H2.out hv0 E2.out hb0
    have R1 : Hid _ := r1
    have R2 : Hid _ := r2
    clear r1 r2
    go_wp2
    go_ret
    exact ⟨q, s2, rfl, hq, R1.out, hfr, hs2, R2.out⟩
  · have hbb : ((b : Int) != 0) = true := by rw [bne_iff_ne]; omega
    go_wp2_with fail
    refine (addTo_any w2 g o (n + 3) cap pre s2 post bo (n + 2) bcap N ds hs2 (hb1.fr hf2 hN) hN (by omega) (by omega)).mono ?_
    rintro e w3 ⟨rfl, hf3, s3, hs3, hl3, hl4, c, hc, he3⟩
    have ht3 : val s3 < Bp (n + 3) := by have := val_lt hs3.lim; rwa [hs3.len] at this
    rw [hs2.len] at he3
    obtain ⟨r0, r1, r2⟩ := step_no H1.out H2.out hv0 E2.out T2.out (by omega) ht3 hc he3
    have R1 : Hid _ := r1
    have R2 : Hid _ := r2
    clear r1 r2 ht3 he3
    go_wp2
    go_ret
    exact ⟨q - 1, s3, ret1 (by omega), by omega, R1.out, hfr.trans hf3, hs3, R2.out⟩

end Go.Proofs.YtbobhhnhlgdkiaaGreat

/- nat.divLong. -/
namespace Go.Proofs.YtbobhhnhlgdkiaaGreat
open Go.RowKit M
set_option maxRecDepth 100000

theorem Own.other {w : World} {g : Nat} {zs : List Nat} (h : Own w g zs) (a : Addr) (u : Value) (hg : g ≠ a.block) : Own (w.setCell a u) g zs := by
  unfold Own; rw [heap_setCell_other w a g u hg]; exact h

/-- The dividend, shifted, is not too great. -/
theorem long_low {A B la m d : Nat} (hA : A < Bp la) (hB : Bp (m + 1) * 2 ^ d ≤ B * 2 ^ d) (hm : m + 2 ≤ la) : A * 2 ^ d < Bp (la - (m + 2) + 1) * (B * 2 ^ d) := by
  have h1 : A * 2 ^ d < Bp la * 2 ^ d := (Nat.mul_lt_mul_right (Nat.two_pow_pos d)).2 hA
  have h2 := Nat.mul_le_mul_left (Bp (la - (m + 2) + 1)) hB
  rw [← Nat.mul_assoc, ← Bp_add, show la - (m + 2) + 1 + (m + 1) = la from by omega] at h2
  omega

/-- From w to w' one block has been made, the row s, of n limbs, worth V. -/
structure Made (w w' : World) (n V : Nat) (s : List Nat) : Prop where
  below : Below w.heap.size w w'
  size : w'.heap.size = w.heap.size + 1
  own : Own w' w.heap.size s
  len : s.length = n
  lim : Lim s
  val : M.val s = V

theorem shiftUp_fresh (w : World) (ao : Option Addr) (n cap d : Nat) (xs : List Nat) (h : Sl w.heap.size w ao n cap xs) (hn : n ≤ 1099511627775) (hd : d < 32) :
    Calls Tryz.prog 115 #[.slice (some ⟨w.heap.size, 0, none⟩) (n + 1) (n + 1), .slice ao n cap, .int .i64 (d : Int)] (w.alloc (.cells (u32s (List.replicate (n + 1) 0)) 86)) fun e w' =>
      ∃ s', e = .returned (.tuple #[]) ∧ Made w w' (n + 1) (val xs * 2 ^ d) s' := by
  have hb0 : Below w.heap.size w (w.alloc (.cells (u32s (List.replicate (n + 1) 0)) 86)) := (Below.refl _ _).alloc (Nat.le_refl _) _
  refine (shiftUp_any _ w.heap.size 0 (n + 1) (n + 1) [] (List.replicate (n + 1) 0) [] ao n cap w.heap.size d xs (Sg.whole (Own.alloc _ _) (Lim.rep _) (by simp)) (h.below hb0) (Nat.le_refl _) (by omega) rfl hd).mono ?_
  rintro e w' ⟨s', rfl, hf, hs, hv⟩
  exact ⟨s', rfl, ⟨hb0.trans (hf.below (Nat.le_refl _)), by rw [hf.size]; simp, hs.all, hs.len, hs.lim, hv⟩⟩

set_option maxHeartbeats 1000000 in
theorem divLong_any (w : World) (ao bo : Option Addr) (la cap m bcap A B : Nat) (h : Sl w.heap.size w ao la cap (toL A)) (h2 : Sl w.heap.size w bo (m + 2) bcap (toL B)) (hla : la ≤ 549755813888) (hm : m + 2 ≤ la) :
    Calls Tryz.prog 108 #[.slice ao la cap, .slice bo (m + 2) bcap] w fun e w' => ∃ qo qn qc ro rn rc, e = .returned (.tuple #[.slice qo qn qc, .slice ro rn rc]) ∧
      Sl w'.heap.size w' qo qn qc (toL (A / B)) ∧ Sl w'.heap.size w' ro rn rc (toL (A % B)) ∧ Below w.heap.size w w' := by
  obtain ⟨b, o, x, hbo, hb, cx, lx, HX⟩ := h2.cell (m + 1) (by omega)
  subst hbo
  have hB0 : B ≠ 0 := by
    intro h0
    have := h2.len
    rw [h0, toL_zero] at this
    simp at this
  have cx' : w.cell? ⟨b, o + (m + 2 - 1), none⟩ = some (.int .u32 (x : Int)) := cx
  have hx0 : x ≠ 0 := by
    have := toL_last hB0
    rw [h2.len] at this
    rw [HX.out]; exact this
  obtain ⟨g1, g2, _, _⟩ := shift_top (l := nb x) hx0 rfl lx
  obtain ⟨d, hd⟩ : ∃ d, d + nb x = 32 := ⟨32 - nb x, by omega⟩
  have hlz := fun w => lz32_any (x : Int) w (by omega) (by omega)
  rw [Int.toNat_natCast, bitLen_nb x lx, show (32 : Int) - (nb x : Int) = (d : Int) from by omega] at hlz
  have HLZ : Hid _ := hlz
  have HD : Hid (d + nb ((toL B).getD (m + 1) 0) = 32) := by rw [HX.out] at hd; exact hd
  have hd32 : d < 32 := by omega
  have mk1 := fun u => make_run (m + 2 + 1) (by omega) u
  have mk2 := fun u => make_run (la + 1) (by omega) u
  have mk3 := fun u => make_run (la - (m + 2) + 1) (by omega) u
  rw [show ((m + 2 + 1 : Nat) : Int) = (m : Int) + 2 + 1 from by omega] at mk1
  rw [show ((la + 1 : Nat) : Int) = (la : Int) + 1 from by omega] at mk2
  rw [show ((la - (m + 2) + 1 : Nat) : Int) = (la : Int) - ((m : Int) + 2) + 1 from by omega] at mk3
  clear hlz g1 g2 hd hx0
  go_enter Tryz.func108, Tryz.ntmps108
  go_wp2_with (go_at_call 112; refine (HLZ.out _).mono ?_; rintro e w' ⟨rfl, rfl⟩)
  refine (shiftUp_fresh w _ (m + 2) bcap d _ h2 (by omega) hd32).mono ?_
  rintro e w1 ⟨s1, rfl, m1⟩
  have h1 : Sl w1.heap.size w1 ao la cap (toL A) := h.later m1.below
  go_wp2_with fail
  refine (shiftUp_fresh w1 ao la cap d _ h1 (by omega) hd32).mono ?_
  rintro e w2 ⟨s2, rfl, m2⟩
  have hfr := fresh w2 (la - (m + 2) + 1)
  obtain ⟨w3, hw3, hbl3, how3, hz3⟩ := hfr
  have HZ3 : Hid _ := hz3
  clear hz3 mk1 mk2
  go_wp2
  rw [← hw3]
  obtain ⟨dv1, dv2, dv3, dv4⟩ := divisor_shift hB0 h2.len HD.out m1.len m1.lim (by rw [m1.val, val_toL])
  have hV0 : 0 < B * 2 ^ d := Nat.mul_pos (by omega) (Nat.two_pow_pos d)
  have LI : LongInv la (m + 2) (A * 2 ^ d) (B * 2 ^ d) s2 (List.replicate (la - (m + 2) + 1) 0) (la - (m + 2) + 1) :=
    LongInv.start m2.len m2.lim (by rw [m2.val, val_toL]) hm (long_low (by have := h.lt; rwa [val_toL] at this) dv4 hm)
  have D3 : Sl w1.heap.size w3 (some ⟨w.heap.size, 0, none⟩) (m + 2) (m + 2 + 1) (s1.take (m + 2)) :=
    (((Sl.own m1.own m1.lim (by rw [m1.size]; omega) (m + 2 + 1) (m + 2 + 1) m1.len (Nat.le_refl _)).take (m + 2) (by omega)).below m2.below).below (hbl3.mono (by rw [m2.size]; omega))
  have O2 : Own w3 w1.heap.size s2 := m2.own.below hbl3 (by rw [m2.size]; omega)
  have BL : Below w.heap.size w w3 := (m1.below.trans (m2.below.mono (by rw [m1.size]; omega))).trans (hbl3.mono (by rw [m2.size, m1.size]; omega))
  have hg1 : w.heap.size < w1.heap.size := by rw [m1.size]; omega
  have hg2 : w1.heap.size < w2.heap.size := by rw [m2.size]; omega
  have W3 : Hid (w3.heap.size = w2.heap.size + 1) := HZ3
  clear mk3 hw3 hbl3 HZ3 m1 m2 h1 h HLZ cx cx' HX h2
  generalize w1.heap.size = gl at *
  generalize w2.heap.size = gq at *
  generalize s1.take (m + 2) = ds at *
  have DV1 : Hid (val ds = B * 2 ^ d) := dv1
  have DV2 : Hid (2147483648 ≤ ds.getD (m + 1) 0) := dv2
  have DV3 : Hid (B * 2 ^ d ≤ Bp (m + 2)) := dv3
  have DV4 : Hid (0 < B * 2 ^ d) := hV0
  clear dv1 dv2 dv3 dv4 hV0 hB0 HD
  go_loopw [11] (fun iv wr => ∃ k L q, k ≤ la - (m + 2) + 1 ∧ iv = .int .i64 (((k : Nat) : Int) - 1) ∧ Below gl w3 wr ∧ Hid (wr.heap.size = gq + 1) ∧ Own wr gl L ∧ Own wr gq q ∧ LongInv la (m + 2) (A * 2 ^ d) (B * 2 ^ d) L q k) (fun iv _ => (intOf iv + 1).toNat)
  case atStart => exact ⟨la - (m + 2) + 1, s2, _, Nat.le_refl _, by go_num, Below.refl _ _, W3, O2, how3, LI⟩
  case round =>
    obtain ⟨k, L, q, hk, rfl, hbl, hsz, hoL, hoq, hi⟩ := hrel
    by_cases h0 : k = 0
    · subst h0
      obtain ⟨f1, f2⟩ := hi.done DV3.out hm
      rw [Nat.mul_div_mul_right _ _ (Nat.two_pow_pos d)] at f1
      rw [Nat.mul_mod_mul_right] at f2
      have F1 : Hid _ := f1
      have F2 : Hid _ := f2
      clear f1 f2
      have sq : Sl (gq + 1) wr (some ⟨gq, 0, none⟩) (la - (m + 2) + 1) (la - (m + 2) + 1) q := Sl.own hoq hi.qlim (by omega) _ _ hi.qlen (Nat.le_refl _)
      have sl : Sl (gq + 1) wr (some ⟨gl, 0, none⟩) (m + 2) (la + 1) (L.take (m + 2)) := (Sl.own hoL hi.lim (by omega) (la + 1) (la + 1) hi.len (Nat.le_refl _)).take (m + 2) (by omega)
      have hq1 : ∀ u, Qt wr u → Sl (gq + 1) u (some ⟨gq, 0, none⟩) (la - (m + 2) + 1) (la - (m + 2) + 1) q := fun u hu => hu.sl sq
      have hl1 : ∀ u, Qt wr u → Sl u.heap.size u (some ⟨gl, 0, none⟩) (m + 2) (la + 1) (L.take (m + 2)) := fun u hu => by rw [hu.size, hsz.out]; exact hu.sl sl
      have HQ1 : Hid _ := hq1
      have HL1 : Hid _ := hl1
      clear hq1 hl1 sq sl
      go_wp2
      go_region_with (first | (go_at_call 73; refine (trimmed_any (gq + 1) _ _ _ _ q (HQ1.out _ (Qt.refl _).drew) (by omega)).mono ?_; rintro e w5 ⟨rfl, a5, n5, c5, rfl, s5, l5⟩) | (go_at_call 117; refine (shiftedDown_any _ _ (m + 2) (la + 1) d _ (HL1.out _ (Qt.refl _).drew) (by omega) hd32).mono ?_; rintro e w6 ⟨a6, n6, c6, rfl, s6, b6⟩))
      all_goals go_wp2
      all_goals go_ret2
      all_goals
        have z6 : wr.drew.heap.size = gq + 1 := hsz.out
        rw [F1.out] at s5
        rw [F2.out, Nat.mul_div_cancel _ (Nat.two_pow_pos d)] at s6
        have b7 := b6
        rw [z6] at b7
        refine ⟨a5, n5, c5, a6, n6, c6, rfl, (s5.below b7).mono (by have := b6.size; omega), s6, ?_⟩
        exact (BL.trans ((hbl.mono (by omega)).drew)).trans (b6.mono (by omega))
    · obtain ⟨j, rfl⟩ : ∃ j, k = j + 1 := ⟨k - 1, by omega⟩
      rw [show ((j + 1 : Nat) : Int) - 1 = (j : Int) from by omega]
      have hLl := hi.len
      have hql := hi.qlen
      have HL : Hid (L.length = la + 1) := hLl
      have HQ : Hid (q.length = la - (m + 2) + 1) := hql
      clear hLl hql
      obtain ⟨sg1, sg2, sg3⟩ := hi.seg DV3.out (by omega)
      have SG3 : Hid (val ((L.drop j).take (m + 2 + 1)) < 4294967296 * val ds) := by rw [DV1.out]; exact sg3
      clear sg1 sg2 sg3
      go_wp2_with fail
      rw [show j + (m + 2) + 1 - j = m + 3 from by omega]
      refine (divStep_any wr gl j m (la + 1 - j) _ _ _ _ (m + 2 + 1) gl ds (Sg.cut hoL hi.lim j (m + 3) (by rw [HL.out]; omega)) (D3.below hbl) (Nat.le_refl _) (by omega) (by omega) DV2.out SG3.out).mono ?_
      rintro e w4 ⟨c, s', rfl, hc, hce, hf4, hs4, hv4⟩
      rw [DV1.out] at hce hv4
      have ST : Hid _ := hi.step (s' := s') DV3.out DV4.out (by omega) hs4.len hs4.lim hv4 (by rw [← hce]; exact hc)
      have HCE : Hid _ := hce
      clear hce hv4
      have oq4 := hoq.fr hf4 (by omega)
      have hcl := oq4.cell (i := j) (by rw [HQ.out]; omega)
      have hfr4 := oq4.free j
      have HS4 : Hid (w4.heap.size = gq + 1) := by rw [hf4.size]; exact hsz
      generalize q.getD j 0 = old at hcl
      go_wp2
      go_roundw
      case rel =>
        refine ⟨j, _, _, by omega, rfl, (hbl.trans (hf4.below (Nat.le_refl _))).setCell (p := ⟨gq, j, none⟩) (by show gl ≤ gq; omega) _, ?_, hs4.own.other _ _ (by show gl ≠ gq; omega), oq4.set j c, ?_⟩
        · show (w4.setCell _ _).heap.size = _
          rw [← HS4.out]; simp [World.setCell]
        · rw [HCE.out]; exact ST.out
      case measure => simp [intOf]

end Go.Proofs.YtbobhhnhlgdkiaaGreat

/- nat.DivMod. -/
namespace Go.Proofs.YtbobhhnhlgdkiaaGreat
open Go.RowKit M
set_option maxRecDepth 100000

set_option maxHeartbeats 1000000 in
theorem divMod_any (w : World) (ao bo : Option Addr) (n cap n2 cap2 : Nat) (xs ys : List Nat) (h : Sl w.heap.size w ao n cap xs) (h2 : Sl w.heap.size w bo n2 cap2 ys) (hlen : n ≤ 549755813888) (hlen2 : n2 ≤ 549755813888) (h0 : val ys ≠ 0) :
    Calls Tryz.prog 93 #[.slice ao n cap, .slice bo n2 cap2] w fun e w' => ∃ qo qn qc ro rn rc, e = .returned (.tuple #[.slice qo qn qc, .slice ro rn rc, .bool true]) ∧
      Sl w'.heap.size w' qo qn qc (toL (val xs / val ys)) ∧ Sl w'.heap.size w' ro rn rc (toL (val xs % val ys)) ∧ Below w.heap.size w w' := by
  go_enter Tryz.func93, Tryz.ntmps93
  go_wp2_with fail
  refine (trimmed_any _ _ ao n cap xs h (by omega)).mono ?_
  rintro e w1 ⟨rfl, a1, n1, c1, rfl, s1, l1⟩
  go_wp2_with fail
  refine (trimmed_any _ _ bo n2 cap2 ys h2 (by omega)).mono ?_
  rintro e w1 ⟨rfl, a2, m1, c2, rfl, s2, l2⟩
  clear h h2
  have hm : m1 ≠ 0 := by
    intro hm
    have := s2.len
    rw [hm] at this
    exact h0 (toL_length_zero.1 this)
  have hmb : ((m1 : Int) == 0) = false := by simp [hm]
  have H0 : Hid _ := h0
  clear h0
  go_wp2_with fail
  refine (cmp_any _ _ _ _ _ _ _ _ _ _ s1 s2 (by omega) (by omega)).mono ?_
  rintro e w1 ⟨rfl, hq⟩
  rw [val_toL, val_toL]
  have t1 : Sl w1.heap.size w1 a1 n1 c1 (toL (val xs)) := by rw [hq.size]; exact hq.sl s1
  have t2 : Sl w1.heap.size w1 a2 m1 c2 (toL (val ys)) := by rw [hq.size]; exact hq.sl s2
  have hbq : ∀ u, Below w1.heap.size w1 u → Below w.heap.size w u := fun u hu => (hq.below _).trans (hu.mono (by rw [hq.size]; exact Nat.le_refl _))
  have HBQ : Hid _ := hbq
  clear s1 s2 hbq
  by_cases hlt : val xs < val ys
  · rw [cmpN_lt hlt]
    have D1 : Hid (val xs / val ys = 0) := Nat.div_eq_of_lt hlt
    have D2 : Hid (val xs % val ys = val xs) := Nat.mod_eq_of_lt hlt
    clear hlt
    go_wp2_with fail
    refine (norm_any w1 a1 n1 c1 _ t1 (by omega)).mono ?_
    rintro e w2 ⟨a3, n3, c3, rfl, s3, b3⟩
    rw [val_toL] at s3
    go_wp2
    go_ret3
    rw [D1.out, D2.out, toL_zero]
    exact ⟨none, 0, 0, a3, n3, c3, rfl, Sl.nil _ _, s3, HBQ.out _ b3⟩
  · have hcm : 0 ≤ cmpN (val xs) (val ys) := by unfold cmpN; split <;> (try split) <;> omega
    have hlen3 : m1 ≤ n1 := by
      rw [← t1.len, ← t2.len]
      by_cases hh : (toL (val xs)).length < (toL (val ys)).length
      · have := toL_len_lt hh; omega
      · omega
    generalize cmpN (val xs) (val ys) = cm at hcm
    clear hlt
    by_cases h1 : m1 = 1
    · have h1b : ((m1 : Int) == 1) = true := by simp [h1]
      obtain ⟨b, o, x, rfl, hb, hcell, hx, HX⟩ := t2.cell 0 (by omega)
      rw [Nat.add_zero] at hcell
      have hvx : val ys = x := by
        have e1 := val_take_succ (xs := toL (val ys)) (k := 0) (by rw [t2.len]; omega)
        rw [List.take_of_length_le (by rw [t2.len]; omega), val_toL, ← HX.out, Bp_zero, val_take_zero] at e1
        omega
      have HVX : Hid _ := hvx
      have hx0 : 0 < x := by rw [← hvx]; exact Nat.pos_of_ne_zero H0.out
      have hm0 : (0 : Int) < (m1 : Int) := by omega
      clear hvx h1
      go_wp2_with fail
      refine (divByLimb_any w1 a1 n1 c1 x _ t1 (by omega) hx0 hx).mono ?_
      rintro e w2 ⟨a3, n3, c3, rfl, s3, b3⟩
      rw [val_toL, ← HVX.out] at s3
      rw [val_toL, ← HVX.out]
      have hml : val xs % val ys < 4294967296 := Nat.lt_of_lt_of_le (Nat.mod_lt _ (Nat.pos_of_ne_zero H0.out)) (by rw [HVX.out]; omega)
      generalize hR : val xs % val ys = R at hml ⊢
      have HR : Hid _ := hR
      clear hR
      go_wp2_with fail
      refine (of_any w2 R (by omega)).mono ?_
      rintro e w3 ⟨a4, n4, c4, rfl, s4, b4⟩
      go_wp2
      go_ret3
      rw [HR.out]
      exact ⟨a3, n3, c3, a4, n4, c4, rfl, s3.later b4, s4, HBQ.out _ (b3.trans (b4.mono b3.size))⟩
    · have h1b : ((m1 : Int) == 1) = false := by rw [beq_eq_false_iff_ne]; omega
      obtain ⟨k, rfl⟩ : ∃ k, m1 = k + 2 := ⟨m1 - 2, by omega⟩
      go_wp2_with fail
      refine (divLong_any w1 a1 a2 n1 c1 k c2 _ _ t1 t2 (by omega) (by omega)).mono ?_
      rintro e w2 ⟨a3, n3, c3, a4, n4, c4, rfl, s3, s4, b3⟩
      go_wp2
      go_ret3
      exact ⟨a3, n3, c3, a4, n4, c4, rfl, s3, s4, HBQ.out _ b3⟩

end Go.Proofs.YtbobhhnhlgdkiaaGreat

/- penumbralaw01.fixed: true. -/
namespace Go.Proofs.YtbobhhnhlgdkiaaGreat
open Go.RowKit M
set_option maxRecDepth 100000

/-- A slice that is written out. -/
theorem lit1 (w : World) (n : Nat) (zs : List Nat) (cz : Array Value) (hz : cz = u32s zs) (hl : Lim zs) (hn : zs.length = n) :
    Sl (w.alloc (.cells cz 86)).heap.size (w.alloc (.cells cz 86)) (some ⟨w.heap.size, 0, none⟩) n n zs ∧ Below w.heap.size w (w.alloc (.cells cz 86)) := by
  subst hz
  exact ⟨Sl.own (Own.alloc _ _) hl (by simp) n n hn (Nat.le_refl _), (Below.refl _ _).alloc (Nat.le_refl _) _⟩
theorem toL_is {n : Nat} {zs : List Nat} (hv : val zs = n) (hl : Lim zs) (hn : zs = [] ∨ zs.getD (zs.length - 1) 0 ≠ 0) : toL n = zs := by rw [← hv]; exact toL_of_normal hl hn

theorem lim1 {a : Nat} (h : a < 4294967296) : Lim [a] := Lim.mk h Lim.nil
theorem lim2 {a b : Nat} (h : a < 4294967296) (k : b < 4294967296) : Lim [a, b] := Lim.mk h (lim1 k)
end Go.Proofs.YtbobhhnhlgdkiaaGreat

/- The calls of nat, each with what is known of its answer's length: as the laws' walks use them. -/
namespace Go.Proofs.YtbobhhnhlgdkiaaGreat
open Go.RowKit M
set_option maxRecDepth 100000

theorem bd_add {A B i : Nat} (hA : A < Bp i) (hB : B < Bp i) : A + B < Bp (i + 1) := by rw [Bp_succ]; omega
theorem bd_mul {A B i j : Nat} (hA : A < Bp i) (hB : B < Bp j) : A * B < Bp (i + j) := by
  rw [Bp_add]; exact Nat.mul_lt_mul'' hA hB
theorem Sl.bd {N n cap : Nat} {w : World} {ao : Option Addr} {xs : List Nat} (h : Sl N w ao n cap xs) {i : Nat} (hi : n ≤ i) : val xs < Bp i := Nat.lt_of_lt_of_le h.lt (Bp_mono hi)
theorem Sl.ln {N n cap V : Nat} {w : World} {ao : Option Addr} (h : Sl N w ao n cap (toL V)) {i : Nat} (hV : V < Bp i) : n ≤ i := by rw [← h.len]; exact toL_len_le hV

/-- What a call leaves: a slice of at most i limbs that reads as ys. -/
def Gv (w : World) (i : Nat) (ys : List Nat) (e : Ending) (w' : World) : Prop :=
  ∃ ao n cap, e = .returned (.slice ao n cap) ∧ Sl w'.heap.size w' ao n cap ys ∧ n ≤ i ∧ Below w.heap.size w w'
/-- .. beside true. -/
def Gt (w : World) (i : Nat) (ys : List Nat) (e : Ending) (w' : World) : Prop :=
  ∃ ao n cap, e = .returned (.tuple #[.slice ao n cap, .bool true]) ∧ Sl w'.heap.size w' ao n cap ys ∧ n ≤ i ∧ Below w.heap.size w w'

section
variable {w : World} {ao bo : Option Addr} {n cap m bcap : Nat} {xs ys : List Nat}

theorem add_k (h : Sl w.heap.size w ao n cap xs) (h2 : Sl w.heap.size w bo m bcap ys) (i : Nat) (hi : n ≤ i) (hj : m ≤ i) (hb : i ≤ 274877906944) :
    Calls Tryz.prog 100 #[.slice ao n cap, .slice bo m bcap] w (Gv w (i + 1) (toL (val xs + val ys))) :=
  (add_any w ao bo n cap m bcap xs ys h h2 (by omega) (by omega)).mono fun _ _ ⟨a, k, c, he, s, b⟩ => ⟨a, k, c, he, s, s.ln (bd_add (h.bd hi) (h2.bd hj)), b⟩
theorem mul_k (h : Sl w.heap.size w ao n cap xs) (h2 : Sl w.heap.size w bo m bcap ys) (i j : Nat) (hi : n ≤ i) (hj : m ≤ j) (hb : i ≤ 274877906944) (hc : j ≤ 274877906944) :
    Calls Tryz.prog 46 #[.slice ao n cap, .slice bo m bcap] w (Gv w (i + j) (toL (val xs * val ys))) :=
  (mul_any w ao bo n cap m bcap xs ys h h2 (by omega) (by omega)).mono fun _ _ ⟨a, k, c, he, s, b⟩ => ⟨a, k, c, he, s, s.ln (bd_mul (h.bd hi) (h2.bd hj)), b⟩
theorem sub_k (h : Sl w.heap.size w ao n cap xs) (h2 : Sl w.heap.size w bo m bcap ys) (i : Nat) (hi : n ≤ i) (hb : i ≤ 274877906944) (hm : m ≤ 274877906944) (hle : val ys ≤ val xs) :
    Calls Tryz.prog 101 #[.slice ao n cap, .slice bo m bcap] w (Gt w i (toL (val xs - val ys))) :=
  (sub_any w ao bo n cap m bcap xs ys h h2 (by omega) (by omega) hle).mono fun _ _ ⟨a, k, c, he, s, b⟩ => ⟨a, k, c, he, s, s.ln (Nat.lt_of_le_of_lt (Nat.sub_le _ _) (h.bd hi)), b⟩
theorem divMod_k (h : Sl w.heap.size w ao n cap xs) (h2 : Sl w.heap.size w bo m bcap ys) (i : Nat) (hi : n ≤ i) (hj : m ≤ i) (hb : i ≤ 274877906944) (h0 : val ys ≠ 0) :
    Calls Tryz.prog 93 #[.slice ao n cap, .slice bo m bcap] w fun e w' => ∃ qo qn qc ro rn rc, e = .returned (.tuple #[.slice qo qn qc, .slice ro rn rc, .bool true]) ∧
      Sl w'.heap.size w' qo qn qc (toL (val xs / val ys)) ∧ Sl w'.heap.size w' ro rn rc (toL (val xs % val ys)) ∧ qn ≤ i ∧ rn ≤ i ∧ Below w.heap.size w w' :=
  (divMod_any w ao bo n cap m bcap xs ys h h2 (by omega) (by omega) h0).mono fun _ _ ⟨a, k, c, a', k', c', he, s, s', b⟩ =>
    ⟨a, k, c, a', k', c', he, s, s', s.ln (Nat.lt_of_le_of_lt (Nat.div_le_self _ _) (h.bd hi)), s'.ln (Nat.lt_of_le_of_lt (Nat.mod_le _ _) (h.bd hi)), b⟩
theorem cmp_k (h : Sl w.heap.size w ao n cap xs) (h2 : Sl w.heap.size w bo m bcap ys) (hb : n ≤ 274877906944) (hm : m ≤ 274877906944) :
    Calls Tryz.prog 45 #[.slice ao n cap, .slice bo m bcap] w fun e w' => e = .returned (.int .i64 (cmpN (val xs) (val ys))) ∧ Below w.heap.size w w' :=
  (cmp_any w ao bo n cap m bcap _ xs ys h h2 (by omega) (by omega)).mono fun _ _ ⟨he, q⟩ => ⟨he, q.below _⟩
end

end Go.Proofs.YtbobhhnhlgdkiaaGreat
