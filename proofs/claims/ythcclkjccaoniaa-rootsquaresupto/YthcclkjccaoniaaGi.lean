/- root.foresee. -/
import Derived.Test.YthcclkjccaoniaaGh
import Derived.Laws.ResultCell
namespace Go.Proofs.Ythcclkjccaoniaa
open Go.RowKit M

/-- Block g is an array of three words. -/
structure Tr (w : World) (g u0 u1 u2 : Nat) : Prop where
  at_ : w.heap[g]? = some (.cells #[.int .u64 (u0 : Int), .int .u64 (u1 : Int), .int .u64 (u2 : Int)] 67 (0, 0))
theorem Tr.cells {w : World} {g u0 u1 u2 : Nat} (h : Tr w g u0 u1 u2) : w.cell? ⟨g, 0, none⟩ = some (.int .u64 (u0 : Int)) ∧ w.cell? ⟨g, 1, none⟩ = some (.int .u64 (u1 : Int)) ∧ w.cell? ⟨g, 2, none⟩ = some (.int .u64 (u2 : Int)) :=
  ⟨by rw [cell_of_row w g 0 _ _ _ h.at_]; rfl, by rw [cell_of_row w g 1 _ _ _ h.at_]; rfl, by rw [cell_of_row w g 2 _ _ _ h.at_]; rfl⟩
theorem Tr.free {w : World} {g u0 u1 u2 : Nat} (h : Tr w g u0 u1 u2) (i : Nat) : w.frozen? ⟨g, i, none⟩ = false := frozen_of_row w g i _ _ h.at_
theorem Tr.keep {w w' : World} {g u0 u1 u2 : Nat} (h : Tr w g u0 u1 u2) (hb : w'.heap[g]? = w.heap[g]?) : Tr w' g u0 u1 u2 := ⟨by rw [hb]; exact h.at_⟩
theorem Tr.put {w : World} {g u0 u1 u2 : Nat} (h : Tr w g u0 u1 u2) (x y z : Nat) : Tr (((w.setCell ⟨g, 0, none⟩ (.int .u64 (x : Int))).setCell ⟨g, 1, none⟩ (.int .u64 (y : Int))).setCell ⟨g, 2, none⟩ (.int .u64 (z : Int))) g x y z := ⟨by
  have a1 := heap_setCell_same w g 0 _ _ (.int .u64 (x : Int)) h.at_
  have a2 := heap_setCell_same _ g 1 _ _ (.int .u64 (y : Int)) a1
  rw [heap_setCell_same _ g 2 _ _ _ a2]; rfl⟩
theorem Fr.put (g : Nat) (w : World) (x y z : Value) : Fr g w (((w.setCell ⟨g, 0, none⟩ x).setCell ⟨g, 1, none⟩ y).setCell ⟨g, 2, none⟩ z) := (((Fr.refl g w).set 0 x).set 1 y).set 2 z

/-- The memory of foresee. -/
structure Fm (g : Nat) (w u : World) (u0 u1 u2 v0 v1 v2 : Nat) : Prop where
  fx : Fx [g, g + 1, g + 2] w u
  ofA : Tr u (g + 1) u0 u1 u2
  ofB : Tr u (g + 2) v0 v1 v2
  res : Cb u g 0 0 0 0
section
variable {g : Nat} {w u u' : World} {u0 u1 u2 v0 v1 v2 : Nat}
theorem Fm.qt (h : Fm g w u u0 u1 u2 v0 v1 v2) (q : Qt u u') : Fm g w u' u0 u1 u2 v0 v1 v2 :=
  ⟨h.fx.qt q, h.ofA.keep (by rw [q.heap]), h.ofB.keep (by rw [q.heap]), h.res.keep (by rw [q.heap])⟩
theorem Fm.putA (h : Fm g w u u0 u1 u2 v0 v1 v2) (x y z : Nat) : Fm g w (((u.setCell ⟨g + 1, 0, none⟩ (.int .u64 (x : Int))).setCell ⟨g + 1, 1, none⟩ (.int .u64 (y : Int))).setCell ⟨g + 1, 2, none⟩ (.int .u64 (z : Int))) x y z v0 v1 v2 :=
  have f := Fr.put (g + 1) u (.int .u64 (x : Int)) (.int .u64 (y : Int)) (.int .u64 (z : Int))
  ⟨h.fx.fr f (by simp), h.ofA.put x y z, h.ofB.keep (f.block _ (by omega)), h.res.keep (f.block _ (by omega))⟩
theorem Fm.putB (h : Fm g w u u0 u1 u2 v0 v1 v2) (x y z : Nat) : Fm g w (((u.setCell ⟨g + 2, 0, none⟩ (.int .u64 (x : Int))).setCell ⟨g + 2, 1, none⟩ (.int .u64 (y : Int))).setCell ⟨g + 2, 2, none⟩ (.int .u64 (z : Int))) u0 u1 u2 x y z :=
  have f := Fr.put (g + 2) u (.int .u64 (x : Int)) (.int .u64 (y : Int)) (.int .u64 (z : Int))
  ⟨h.fx.fr f (by simp), h.ofA.keep (f.block _ (by omega)), h.ofB.put x y z, h.res.keep (f.block _ (by omega))⟩
end
theorem Fm.start (w : World) : ∃ w0, w0 = (((w.alloc (.cells #[.int .u64 0, .int .u64 0, .int .u64 0, .int .u64 0] 51)).alloc (.cells #[.int .u64 0, .int .u64 1, .int .u64 0] 67)).alloc (.cells #[.int .u64 0, .int .u64 0, .int .u64 1] 67)) ∧
    Below w.heap.size w w0 ∧ Fm w.heap.size w0 w0 0 1 0 0 0 1 := by
  refine ⟨_, rfl, (((Below.refl _ _).alloc (Nat.le_refl _) _).alloc (by simp) _).alloc (by simp; omega) _, ⟨Fx.refl _ _, ⟨?_⟩, ⟨?_⟩, ⟨?_⟩⟩⟩
  · rw [heap_alloc_old _ _ (by simp)]
    have := heap_alloc_new (w.alloc (.cells #[.int .u64 0, .int .u64 0, .int .u64 0, .int .u64 0] 51)) (.cells #[.int .u64 0, .int .u64 1, .int .u64 0] 67)
    simpa using this
  · have := heap_alloc_new ((w.alloc (.cells #[.int .u64 0, .int .u64 0, .int .u64 0, .int .u64 0] 51)).alloc (.cells #[.int .u64 0, .int .u64 1, .int .u64 0] 67)) (.cells #[.int .u64 0, .int .u64 0, .int .u64 1] 67)
    simpa using this
  · rw [heap_alloc_old _ _ (by simp; omega), heap_alloc_old _ _ (by simp)]
    exact heap_alloc_new _ _

theorem Cb.put {w : World} {g t0 l0 t1 l1 : Nat} (h : Cb w g t0 l0 t1 l1) (x y z v : Nat) : Cb ((((w.setCell ⟨g, 0, none⟩ (.int .u64 (x : Int))).setCell ⟨g, 1, none⟩ (.int .u64 (y : Int))).setCell ⟨g, 2, none⟩ (.int .u64 (z : Int))).setCell ⟨g, 3, none⟩ (.int .u64 (v : Int))) g x y z v := ⟨by
  have a1 := heap_setCell_same w g 0 _ _ (.int .u64 (x : Int)) h.at_
  have a2 := heap_setCell_same _ g 1 _ _ (.int .u64 (y : Int)) a1
  have a3 := heap_setCell_same _ g 2 _ _ (.int .u64 (z : Int)) a2
  rw [heap_setCell_same _ g 3 _ _ _ a3]; rfl⟩
theorem Fr.put4 (g : Nat) (w : World) (x y z v : Value) : Fr g w ((((w.setCell ⟨g, 0, none⟩ x).setCell ⟨g, 1, none⟩ y).setCell ⟨g, 2, none⟩ z).setCell ⟨g, 3, none⟩ v) := ((((Fr.refl g w).set 0 x).set 1 y).set 2 z).set 3 v

/-- What foresee hands back. -/
def Foresaw (w : World) (a b : Nat) (e : Ending) (w' : World) : Prop := ∃ t u0 u1 v0 v1, e = .returned (.tuple #[.agg #[.int .u64 ((u0 : Nat) : Int), .int .u64 ((v0 : Nat) : Int), .int .u64 ((v1 : Nat) : Int), .int .u64 ((u1 : Nat) : Int)], .bool t]) ∧
      Below w.heap.size w w' ∧ (v0 = 0 ∨ ∃ r r', Sure t a b u0 u1 v0 v1 r r')

theorem size51 : (Try.prog.info? 51).map (·.size) = some 4 := by kernel_rfl

theorem foresee_ret {w w0 wr : World} {g a b : Nat} {t : Bool} {u0 u1 u2 v0 v1 v2 x y : Nat} {act : Act} (hw : Below g w w0) (hg : g = w.heap.size) (st : Fm g w0 wr u0 u1 u2 v0 v1 v2) (J : Fs t a b x y u0 u1 u2 v0 v1 v2)
    (h4 : act.tmps.getD 4 undef = .pointer (some ⟨g, 0, none⟩)) (h5 : act.tmps.getD 5 undef = .bool t) (hd : act.defers = []) :
    bodyPost Try.prog Try.f41 (Foresaw w a b) .ret act ((((wr.setCell ⟨g, 0, none⟩ (.int .u64 (u0 : Int))).setCell ⟨g, 1, none⟩ (.int .u64 (v0 : Int))).setCell ⟨g, 2, none⟩ (.int .u64 (v1 : Int))).setCell ⟨g, 3, none⟩ (.int .u64 (u1 : Int))) := by
  have cb := st.res.put u0 v0 v1 u1
  have fr := Fr.put4 g wr (.int .u64 (u0 : Int)) (.int .u64 (v0 : Int)) (.int .u64 (v1 : Int)) (.int .u64 (u1 : Int))
  have fx := st.fx.fr fr (by simp)
  refine bodyPost_ret (v := .tuple #[.agg #[.int .u64 (u0 : Int), .int .u64 (v0 : Int), .int .u64 (v1 : Int), .int .u64 (u1 : Int)], .bool t]) ?_ hd ⟨t, u0, u1, v0, v1, rfl, ?_, J.past⟩
  · rw [results_cell_tmp rfl, h4, h5]
    simp [asAddr, run_loadVar_row _ g _ 51 _ _ _ cb.at_ Try.underlying51 rfl size51]
  · rw [← hg]
    exact hw.trans (fx.below (by intro k hk; simp at hk; omega))

set_option maxHeartbeats 2000000 in
theorem foresee_any (w : World) (a b : Nat) (ha : a < 18446744073709551616) (hb : b ≤ a) (h1 : 1 ≤ a) :
    Calls Try.prog 41 #[.int .u64 (a : Int), .int .u64 (b : Int)] w (Foresaw w a b) := by
  obtain ⟨w0, hw0, bw0, s0⟩ := Fm.start w
  have F0 : Hid (Fs true a b a b 0 1 0 0 0 1) := Fs.start hb h1
  go_enter Try.func41, Try.ntmps41
  go_wp2
  rw [← hw0]
  obtain ⟨g, hg⟩ : ∃ g, g = w.heap.size := ⟨_, rfl⟩
  rw [← hg] at s0 bw0 ⊢
  have HW : Hid (Below g w w0) := bw0
  have HGS : Hid (g = w.heap.size) := hg
  clear hw0 bw0 hg
  rw [show g + 1 + 1 = g + 2 from rfl]
  go_loopw [0, 1, 6] (fun av bv tv wr => ∃ t x y u0 u1 u2 v0 v1 v2, av = .int .u64 ((x : Nat) : Int) ∧ bv = .int .u64 ((y : Nat) : Int) ∧ tv = .bool t ∧ Fm g w0 wr u0 u1 u2 v0 v1 v2 ∧ Hid (Fs t a b x y u0 u1 u2 v0 v1 v2)) (fun _ bv _ _ => (intOf bv).toNat)
  case atStart => exact ⟨true, a, b, 0, 1, 0, 0, 0, 1, rfl, rfl, rfl, s0, F0⟩
  case round =>
    clear s0 F0
    obtain ⟨t, x, y, u0, u1, u2, v0, v1, v2, rfl, rfl, rfl, st, J⟩ := hrel
    obtain ⟨n1, n2, n3, n4⟩ := J.out.bounds
    have hyx := J.out.le
    have hx1 := J.out.pos
    have hv1 := J.out.one
    obtain ⟨p0, p1, p2⟩ := st.ofA.cells
    obtain ⟨q0, q1, q2⟩ := st.ofB.cells
    by_cases t1 : v2 ≤ y
    · have hs : v1 + v2 ≤ a := by
        have e := J.out.ea
        have e1 := Nat.le_mul_of_pos_right v2 hx1
        have e2 := Nat.le_mul_of_pos_right v1 (show 0 < y by omega)
        omega
      have d1 : decide ((v2 : Int) ≤ (y : Int)) = true := by simp; omega
      by_cases t2 : v1 + v2 ≤ x - y
      · have d2 : decide ((v1 : Int) + (v2 : Int) ≤ (x : Int) - (y : Int)) = true := by simp; omega
        have J2 := J.out.step t1 t2
        obtain ⟨b1, b2, b3, b4⟩ := J2.bounds
        have hy0 : 0 < y := by omega
        have hml := Nat.mod_lt x hy0
        have hyb : ((y : Int) == 0) = false := by rw [beq_eq_false_iff_ne]; omega
        obtain ⟨q, hq⟩ : ∃ q, q = x / y := ⟨_, rfl⟩
        obtain ⟨m, hm⟩ : ∃ m, m = x % y := ⟨_, rfl⟩
        have ed : (x : Int) / (y : Int) = (q : Int) := by rw [hq, Int.natCast_ediv]
        have et : (x : Int).tdiv (y : Int) = (q : Int) := by rw [Int.tdiv_eq_ediv_of_nonneg (by omega)]; exact ed
        have em : (x : Int) % (y : Int) = (m : Int) := by rw [hm, Int.natCast_emod]
        have eu : (x : Int).tmod (y : Int) = (m : Int) := by rw [Int.tmod_eq_emod_of_nonneg (by omega)]; exact em
        have hqx : q ≤ x := by rw [hq]; exact Nat.div_le_self _ _
        rw [← hq] at J2 b1 b3
        rw [← hm] at J2 hml
        have k1 : (0 : Int) ≤ (q : Int) * (u2 : Int) ∧ (u1 : Int) + (q : Int) * (u2 : Int) ≤ 18446744073709551615 := by rw [← Int.natCast_mul]; omega
        have k2 : (0 : Int) ≤ (q : Int) * (v2 : Int) ∧ (v1 : Int) + (q : Int) * (v2 : Int) ≤ 18446744073709551615 := by rw [← Int.natCast_mul]; omega
        have hq64 : q < 18446744073709551616 := by omega
        have hx64 : x < 18446744073709551616 := by omega
        have hu64 : u1 < 18446744073709551616 ∧ u2 < 18446744073709551616 ∧ v1 < 18446744073709551616 ∧ v2 < 18446744073709551616 := by omega
        obtain ⟨hu1, hu2, hu3, hu4⟩ := hu64
        obtain ⟨k3, k4⟩ := k1
        obtain ⟨k5, k6⟩ := k2
        have HJ : Hid (Fs (!t) a b y m u1 u2 (u1 + q * u2) v1 v2 (v1 + q * v2)) := J2
        have HS : Hid (Fm g w0 wr u0 u1 u2 v0 v1 v2) := st
        clear st J2 J hq hm b1 b2 b3 b4 n1 n2 n3 n4 hx1 hv1
        go_wp2
        go_quiet (fail)
        have st2 := HS.out.qt ((Qt.refl wr).drewN nq)
        generalize wr.drewN nq = wq at st2 ⊢
        clear p0 p1 p2 q0 q1 q2 HS
        obtain ⟨p0, p1, p2⟩ := st2.ofA.cells
        obtain ⟨q0, q1, q2⟩ := st2.ofB.cells
        have z0 := st2.ofA.free 0
        have z1 := st2.ofA.free 1
        have z2 := st2.ofA.free 2
        have y0 := st2.ofB.free 0
        have y1 := st2.ofB.free 1
        have y2 := st2.ofB.free 2
        have HS : Hid (Fm g w0 wq u0 u1 u2 v0 v1 v2) := st2
        clear st2
        go_wp2
        have st3 := (HS.out.putA u1 u2 (u1 + q * u2)).putB v1 v2 (v1 + q * v2)
        rw [show ((u1 + q * u2 : Nat) : Int) = (u1 : Int) + (q : Int) * (u2 : Int) from by rw [Int.natCast_add, Int.natCast_mul], show ((v1 + q * v2 : Nat) : Int) = (v1 : Int) + (q : Int) * (v2 : Int) from by rw [Int.natCast_add, Int.natCast_mul]] at st3
        go_roundw
        case rel => exact ⟨!t, y, m, u1, u2, u1 + q * u2, v1, v2, v1 + q * v2, rfl, rfl, rfl, st3, HJ⟩
        case measure => simp [intOf]; omega
      · have d2 : decide ((v1 : Int) + (v2 : Int) ≤ (x : Int) - (y : Int)) = false := by simp; omega
        have HS : Hid (Fm g w0 wr u0 u1 u2 v0 v1 v2) := st
        obtain ⟨c0, c1, c2, c3⟩ := st.res.cells
        have z0 := frozen_of_row wr g 0 _ _ st.res.at_
        have z1 := frozen_of_row wr g 1 _ _ st.res.at_
        have z2 := frozen_of_row wr g 2 _ _ st.res.at_
        have z3 := frozen_of_row wr g 3 _ _ st.res.at_
        clear st
        go_wp2
        exact foresee_ret HW.out HGS.out HS.out J.out rfl rfl rfl
    · have d1 : decide ((v2 : Int) ≤ (y : Int)) = false := by simp; omega
      have HS : Hid (Fm g w0 wr u0 u1 u2 v0 v1 v2) := st
      obtain ⟨c0, c1, c2, c3⟩ := st.res.cells
      have z0 := frozen_of_row wr g 0 _ _ st.res.at_
      have z1 := frozen_of_row wr g 1 _ _ st.res.at_
      have z2 := frozen_of_row wr g 2 _ _ st.res.at_
      have z3 := frozen_of_row wr g 3 _ _ st.res.at_
      clear st
      go_wp2
      exact foresee_ret HW.out HGS.out HS.out J.out rfl rfl rfl
end Go.Proofs.Ythcclkjccaoniaa
