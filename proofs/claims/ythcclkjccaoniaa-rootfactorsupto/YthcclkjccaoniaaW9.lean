/- nat.guess. -/
import Derived.Test.YthcclkjccaoniaaW8
namespace Go.Proofs.Ythcclkjccaoniaa
open Go.RowKit M

set_option maxHeartbeats 2000000 in
theorem guess_any (w : World) (ao bo : Option Addr) (n cap bcap N : Nat) (ls ds : List Nat) (h : Sl N w ao (n + 3) cap ls) (h2 : Sl N w bo (n + 2) bcap ds) (hn : n ≤ 1099511627776)
    (htop : 2147483648 ≤ ds.getD (n + 1) 0) (huv : val ls < 4294967296 * val ds) :
    Calls Try.prog 60 #[.slice ao (n + 3) cap, .slice bo (n + 2) bcap] w fun e w' => ∃ q : Nat, e = .returned (.int .u32 (q : Int)) ∧ q < 4294967296 ∧ val ls / val ds ≤ q ∧ q ≤ val ls / val ds + 1 ∧ Qt w w' := by
  have G := Gs.mk' h.lim h2.lim h.len h2.len htop huv
  obtain ⟨b, o, x2, hao, hb, cx2, lx2, HX2⟩ := h.cell (n + 2) (by omega)
  obtain ⟨_, _, x1, e1, _, cx1, lx1, HX1⟩ := h.cell (n + 1) (by omega)
  obtain ⟨_, _, x0, e0, _, cx0, lx0, HX0⟩ := h.cell n (by omega)
  obtain ⟨b', o', y1, hbo, hb', cy1, ly1, HY1⟩ := h2.cell (n + 1) (by omega)
  obtain ⟨_, _, y0, e0', _, cy0, ly0, HY0⟩ := h2.cell n (by omega)
  subst hao
  subst hbo
  simp only [Option.some.injEq, Addr.mk.injEq, and_true] at e1 e0 e0'
  obtain ⟨rfl, rfl⟩ := e1
  obtain ⟨rfl, rfl⟩ := e0
  obtain ⟨rfl, rfl⟩ := e0'
  rw [← HX2.out, ← HX1.out, ← HX0.out, ← HY1.out, ← HY0.out] at G
  rw [← HY1.out] at htop
  have GG : Hid _ := G
  clear G h h2 huv
  have cx1' : w.cell? ⟨b, o + (n + 2 - 1), none⟩ = some (.int .u32 (x1 : Int)) := cx1
  have cx0' : w.cell? ⟨b, o + (n + 2 - 2), none⟩ = some (.int .u32 (x0 : Int)) := cx0
  have cy1' : w.cell? ⟨b', o' + (n + 2 - 1), none⟩ = some (.int .u32 (y1 : Int)) := cy1
  have cy0' : w.cell? ⟨b', o' + (n + 2 - 2), none⟩ = some (.int .u32 (y0 : Int)) := cy0
  have hj := or_join (r := x2) (x := x1) lx2 lx1
  go_enter Try.func60, Try.ntmps60
  go_wp2
  go_quiet (fail)
  go_wp2
  refine wp_region_quiet_lit (by kernel_rfl) (by kernel_rfl) ?_
  repeat (first | go_big_quiet_step (fail) | quiet_step (fail))
  refine wpQuiet_nil ?_
  intro _ hw'
  obtain ⟨nq2, hw''⟩ := hw'
  subst hw''
  go_wp2
  have hy1 : (1 : Int) ≤ (y1 : Int) := by omega
  have hyb : ((y1 : Int) == 0) = false := by simp; omega
  refine wp_region_quiet_lit (by kernel_rfl) (by kernel_rfl) ?_
  repeat (first | go_big_quiet_step (fail) | quiet_step (fail))
  refine wpQuiet_nil ?_
  intro _ hw'
  obtain ⟨nq3, hw''⟩ := hw'
  subst hw''
  go_wp2
  have hq : Qt w (((w.drewN nq).drewN nq2).drewN nq3) := ((Qt.refl w).drewN _).drewN _ |>.drewN _
  have c0 : (((w.drewN nq).drewN nq2).drewN nq3).cell? ⟨b, o + (n + 2 - 2), none⟩ = some (.int .u32 (x0 : Int)) := cx0'
  have c0' : (((w.drewN nq).drewN nq2).drewN nq3).cell? ⟨b, o + n, none⟩ = some (.int .u32 (x0 : Int)) := cx0'
  generalize ((w.drewN nq).drewN nq2).drewN nq3 = W at hq c0 c0' ⊢
  clear cx2 cx1 cx0 cy1 cy0 cx1' cx0' cy1' cy0' hj
  have eq0 : ((x2 : Int) * 4294967296 + x1) / y1 = (((x1 + 4294967296 * x2) / y1 : Nat) : Int) := by
    rw [Int.natCast_ediv]; congr 1; omega
  have er0 : ((x2 : Int) * 4294967296 + x1) % y1 = (((x1 + 4294967296 * x2) % y1 : Nat) : Int) := by
    rw [Int.natCast_emod]; congr 1; omega
  go_loop [9, 10] (fun qv rv => ∃ q r : Nat, qv = .int .u64 (q : Int) ∧ rv = .int .u64 (r : Int) ∧ GsInv (x1 + 4294967296 * x2) y1 (val ls / val ds) q r) (fun _ rv => 4294967296 - (intOf rv).toNat)
  case atStart => exact ⟨_, _, congrArg _ eq0, congrArg _ er0, GG.out.start⟩
  case round =>
    clear eq0 er0
    obtain ⟨q, r, rfl, rfl, hi⟩ := hrel
    have hql := hi.le
    have hrl := hi.hr
    by_cases hqB : 4294967296 ≤ q
    · have hg : ((q : Int) / 4294967296 != 0) = true := by rw [bne_iff_ne]; omega
      obtain ⟨l1, l2⟩ := GG.out.less hi (.inl hqB)
      have hq1 : 1 ≤ q := by omega
      have L1 : Hid _ := l1
      have L2 : Hid _ := l2
      clear l1 l2
      by_cases hbr : 4294967296 ≤ r + y1
      · have hg2 : (((r : Int) + y1) / 4294967296 != 0) = true := by rw [bne_iff_ne]; omega
        obtain ⟨f1, f2⟩ := GG.out.broke L2.out hbr
        have F2 : Hid _ := f2
        clear f2
        go_wp2
        go_ret
        exact ⟨q - 1, ret1 (by omega), f1, by have := L1.out; omega, F2.out, hq⟩
      · have hg2 : (((r : Int) + y1) / 4294967296 != 0) = false := by simp; omega
        go_wp2
        go_round
        case rel => exact ⟨q - 1, r + y1, by go_num, by go_num, ⟨L2.out, by have := L1.out; omega, by omega, by omega⟩⟩
        case measure => simp [intOf]; omega
    · have hg : ((q : Int) / 4294967296 != 0) = false := by simp; omega
      have hp0 : (0 : Int) ≤ (q : Int) * (y0 : Int) := by rw [← Int.natCast_mul]; omega
      have hp1 : (q : Int) * (y0 : Int) ≤ 18446744065119617025 := by have := mul_bound (q := q) (by omega) ly0; rw [← Int.natCast_mul]; omega
      have hj := or_join (r := r) (x := x0) hrl lx0
      by_cases ht : r * 4294967296 + x0 < q * y0
      · obtain ⟨l1, l2⟩ := GG.out.less hi (.inr ht)
        have htb : decide (((r * 4294967296 + x0 : Nat) : Int) < (q : Int) * (y0 : Int)) = true := by simp only [decide_eq_true_eq]; rw [← Int.natCast_mul]; omega
        have htb' : decide ((r : Int) * 4294967296 + (x0 : Int) < (q : Int) * (y0 : Int)) = true := by simp only [decide_eq_true_eq]; rw [← Int.natCast_mul]; omega
        have hq1 : 1 ≤ q := Nat.lt_of_le_of_lt (Nat.zero_le _) l1
        have L1 : Hid _ := l1
        have L2 : Hid _ := l2
        clear l1 l2 ht
        by_cases hbr : 4294967296 ≤ r + y1
        · have hg2 : (((r : Int) + y1) / 4294967296 != 0) = true := by rw [bne_iff_ne]; omega
          obtain ⟨f1, f2⟩ := GG.out.broke L2.out hbr
          have F2 : Hid _ := f2
          clear f2
          go_wp2
          go_ret
          exact ⟨q - 1, ret1 (by omega), f1, by have := L1.out; omega, F2.out, hq⟩
        · have hg2 : (((r : Int) + y1) / 4294967296 != 0) = false := by simp; omega
          go_wp2
          go_round
          case rel => exact ⟨q - 1, r + y1, by go_num, by go_num, ⟨L2.out, by have := L1.out; omega, by omega, by omega⟩⟩
          case measure => simp [intOf]; omega
      · have htb : decide ((r : Int) * 4294967296 + (x0 : Int) < (q : Int) * (y0 : Int)) = false := by simp only [decide_eq_false_iff_not]; rw [← Int.natCast_mul]; omega
        have F2 : Hid (q ≤ val ls / val ds + 1) := GG.out.fine hi.eq (by omega) (by omega)
        clear ht
        go_wp2
        go_ret
        exact ⟨q, ret1 rfl, by omega, hi.ge, F2.out, hq⟩

end Go.Proofs.Ythcclkjccaoniaa
