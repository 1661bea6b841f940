/- root.combination.apply: the walk. -/
import Derived.Test.YthcclkjccaoniaaGg
namespace Go.Proofs.Ythcclkjccaoniaa
open Go.RowKit M

theorem mul_int {p x : Nat} (hp : p < 4294967296) (hx : x < 4294967296) : (0 : Int) ≤ (p : Int) * (x : Int) ∧ (p : Int) * (x : Int) ≤ 18446744065119617025 := by
  have := mul_bound hp hx
  rw [← Int.natCast_mul]; omega

set_option maxHeartbeats 2000000 in
theorem apply_any (w : World) (B ga gb n ca cb t0 l0 t1 l1 : Nat) (xs ys : List Nat) (ha : Ow B w (.slice (some ⟨ga, 0, none⟩) n ca) xs) (hb : Ow B w (.slice (some ⟨gb, 0, none⟩) n cb) ys) (hne : ga ≠ gb) (hn : n ≤ 1099511627776)
    (h1 : t0 < 4294967296) (h2 : l0 < 4294967296) (h3 : t1 < 4294967296) (h4 : l1 < 4294967296) :
    Calls Try.prog 42 #[.agg #[.int .u64 (t0 : Int), .int .u64 (l0 : Int), .int .u64 (t1 : Int), .int .u64 (l1 : Int)], .slice (some ⟨ga, 0, none⟩) n ca, .slice (some ⟨gb, 0, none⟩) n cb] w fun e w' =>
      ∃ oa ob c l b c2 l2 b2, e = .returned (.tuple #[]) ∧ Below B w w' ∧ Ow B w' (.slice (some ⟨ga, 0, none⟩) n ca) oa ∧ Ow B w' (.slice (some ⟨gb, 0, none⟩) n cb) ob ∧ DfInv n xs ys oa t0 l0 n c l b ∧ DfInv n ys xs ob t1 l1 n c2 l2 b2 := by
  have hxl := ha.len
  have hyl := hb.len
  have hxm := ha.lim
  have hym := hb.lim
  have hBa := ha.block.1
  have hBb := hb.block.1
  obtain ⟨w0, hw0, bw0, s0⟩ := St.start (t0 := t0) (l0 := l0) (t1 := t1) (l1 := l1) ha hb hne
  have hBc : B ≤ w.heap.size := by have := ha.block; omega
  go_enter Try.func42, Try.ntmps42
  go_wp2
  rw [← hw0]
  obtain ⟨gc, hgc⟩ : ∃ gc, gc = w.heap.size := ⟨_, rfl⟩
  rw [← hgc] at s0 hBc bw0 ⊢
  have HW : Hid (Below gc w w0) := bw0
  have I1 : Hid (DfInv n xs ys xs t0 l0 0 0 0 0) := DfInv.start _ _ hxm hxl
  have I2 : Hid (DfInv n ys xs ys t1 l1 0 0 0 0) := DfInv.start _ _ hym hyl
  have HXM : Hid (Lim xs) := hxm
  have HYM : Hid (Lim ys) := hym
  clear ha hb hw0 bw0 hxl hyl hxm hym hgc
  rw [show gc + 1 + 1 = gc + 2 from rfl]
  go_loopw [13] (fun iv wr => ∃ k oa ob c l b c2 l2 b2, k ≤ n ∧ iv = .int .i64 ((k : Nat) : Int) ∧ St B ga gb gc n ca cb t0 l0 t1 l1 w0 wr oa ob c l b c2 l2 b2 ∧ Hid (DfInv n xs ys oa t0 l0 k c l b) ∧ Hid (DfInv n ys xs ob t1 l1 k c2 l2 b2)) (fun iv _ => n - (intOf iv).toNat)
  case atStart => exact ⟨0, xs, ys, 0, 0, 0, 0, 0, 0, Nat.zero_le _, rfl, s0, I1, I2⟩
  case round =>
    clear s0 I1 I2
    obtain ⟨k, oa, ob, c, l, b, c2, l2, b2, hk, rfl, st, J1, J2⟩ := hrel
    by_cases hlt : k < n
    · obtain ⟨x, cx, fx, hx, HX⟩ := st.ra.cell k hlt
      obtain ⟨y, cy, fy, hy, HY⟩ := st.rb.cell k hlt
      have HX2 : Hid (xs.getD k 0 = x) := by show xs.getD k 0 = x; rw [HX.out]; exact (J1.out.rest k (Nat.le_refl _)).symm
      have HY2 : Hid (ys.getD k 0 = y) := by show ys.getD k 0 = y; rw [HY.out]; exact (J2.out.rest k (Nat.le_refl _)).symm
      have m1 := mul_int h1 hx
      have m2 := mul_int h2 hy
      have m3 := mul_int h3 hy
      have m4 := mul_int h4 hx
      have HS : Hid (St B ga gb gc n ca cb t0 l0 t1 l1 w0 wr oa ob c l b c2 l2 b2) := st
      clear st HX HY
      go_wp2
      go_quiet (fail)
      have st2 := HS.out.qt ((Qt.refl wr).drewN nq)
      generalize wr.drewN nq = wq at st2 ⊢
      clear cx cy fx fy HS
      obtain ⟨q0, q1, q2, q3⟩ := st2.box.cells
      go_wp2_with fail
      rw [← Int.natCast_mul, ← Int.natCast_mul]
      refine (dnext_any wq (gc + 1) c l b (t0 * x) (l0 * y) st2.d1 J1.out.car J1.out.les J1.out.bor (mul_bound h1 hx) (mul_bound h2 hy)).mono ?_
      rintro e w2 ⟨v, b', rfl, hv, hb', he, d', f'⟩
      have st3 := st2.next1 d' f'
      have K1 : Hid (DfInv n xs ys (oa.set k v) t0 l0 (k + 1) ((c + t0 * x) / 4294967296) ((l + l0 * y) / 4294967296) b') := by
        have := J1.out.step (v := v) (b' := b') hlt h1 h2 (HXM.out.getD k) (HYM.out.getD k) hv hb' (by rw [HX2.out, HY2.out]; exact he)
        rw [HX2.out, HY2.out] at this
        exact this
      clear he d' f' st2 q0 q1 q2 q3 m1 m2 J1
      rw [Int.natCast_mul, Int.natCast_mul]
      generalize (c + t0 * x) / 4294967296 = c' at *
      generalize (l + l0 * y) / 4294967296 = l' at *
      obtain ⟨q0, q1, q2, q3⟩ := st3.box.cells
      obtain ⟨_, cx, fx, _, _⟩ := st3.ra.cell k hlt
      have hac := st3.lta
      go_wp2_with fail
      have st4 := st3.setA k hv
      generalize w2.setCell ⟨ga, k, none⟩ (.int .u32 (v : Int)) = w3 at st4 ⊢
      clear st3 q0 q1 q2 q3 cx fx
      rw [← Int.natCast_mul, ← Int.natCast_mul]
      refine (dnext_any w3 (gc + 2) c2 l2 b2 (t1 * y) (l1 * x) st4.d2 J2.out.car J2.out.les J2.out.bor (mul_bound h3 hy) (mul_bound h4 hx)).mono ?_
      rintro e w4 ⟨v2, b2', rfl, hv2, hb2', he, d', f'⟩
      have st5 := st4.next2 d' f'
      have K2 : Hid (DfInv n ys xs (ob.set k v2) t1 l1 (k + 1) ((c2 + t1 * y) / 4294967296) ((l2 + l1 * x) / 4294967296) b2') := by
        have := J2.out.step (v := v2) (b' := b2') hlt h3 h4 (HYM.out.getD k) (HXM.out.getD k) hv2 hb2' (by rw [HX2.out, HY2.out]; exact he)
        rw [HX2.out, HY2.out] at this
        exact this
      clear he d' f' st4 m3 m4 J2
      rw [Int.natCast_mul, Int.natCast_mul]
      generalize (c2 + t1 * y) / 4294967296 = c2' at *
      generalize (l2 + l1 * x) / 4294967296 = l2' at *
      obtain ⟨_, cy, fy, _, _⟩ := st5.rb.cell k hlt
      go_wp2
      go_roundw
      case rel => exact ⟨k + 1, oa.set k v, ob.set k v2, c', l', b', c2', l2', b2', by omega, by go_num, st5.setB k hv2, K1, K2⟩
      case measure => simp [intOf]; omega
    · obtain rfl : k = n := by omega
      go_wp2
      go_end0
      have hS : ∀ g, g ∈ [ga, gb, gc + 1, gc + 2] → B ≤ g := by intro g hg; simp at hg; omega
      exact ⟨oa, ob, c, l, b, c2, l2, b2, rfl, (HW.out.mono hBc).trans (st.fx.below hS), st.ra, st.rb, J1.out, J2.out⟩
end Go.Proofs.Ythcclkjccaoniaa
