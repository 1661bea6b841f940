/- rat: Floor. -/
import Derived.Test.YtmoicmjljflcgaaGreatJa
import Derived.Test.YtmoicmjljflcgaaGreatJb
namespace Go.Proofs.YtmoicmjljflcgaaGreat
open Go.RowKit M Kahn
set_option maxRecDepth 100000

/-- A whole number's canonical Rat. -/
theorem Cq.whole {w : World} {s s' : Bool} {no : Option Addr} {nn nc : Nat} {eo : Option Addr} {en ec : Nat} {q : Rat} {C K : Nat} (hq : rq s C 1 = q) (hs : s' = (s && decide (C ≠ 0))) (h1 : Sl w.heap.size w no nn nc (toL C)) (h2 : Sl w.heap.size w eo en ec [1]) (hn : nn ≤ K) (hK : 1 ≤ K) : Cq w s' no nn nc eo en ec q K := by
  rw [rq_one] at hq
  have e1 : q.num = sg s C := by rw [← hq]; rfl
  have e2 : q.den = 1 := by rw [← hq]; rfl
  refine ⟨?_, ?_, ?_, hn, ?_⟩
  · rw [hs, e1]
    cases s
    · simp [sg]
    · by_cases hc : C = 0
      · subst hc; rfl
      · simp [sg, hc]; omega
  · rw [e1, sg_abs]; exact h1
  · rw [e2, toL_one]; exact h2
  · have := h2.len; simp at this; omega

section
variable {w : World} {s : Bool} {no : Option Addr} {nn nc : Nat} {eo : Option Addr} {en ec : Nat} {K : Nat} {q : Rat}
end
end Go.Proofs.YtmoicmjljflcgaaGreat

/- rat: Sqrt. -/
namespace Go.Proofs.YtmoicmjljflcgaaGreat
open Go.RowKit M Kahn
set_option maxRecDepth 100000

theorem Cq.root {w : World} {no : Option Addr} {nn nc : Nat} {eo : Option Addr} {en ec : Nat} {q : Rat} {K : Nat} (hs : qsq q = true) (h1 : Sl w.heap.size w no nn nc (toL (isq q.num.natAbs))) (h2 : Sl w.heap.size w eo en ec (toL (isq q.den))) (hn : nn ≤ K) (hd : en ≤ K) : Cq w false no nn nc eo en ec (qsqrt q) K := by
  have hq : qsqrt q = rq false (isq q.num.natAbs) (isq q.den) := by unfold qsqrt; rw [hs, if_pos rfl]
  unfold qsq at hs
  obtain ⟨_, e1, e2⟩ := of_decide_eq_true hs
  have hd0 : isq q.den ≠ 0 := by intro e; rw [e] at e2; exact q.den_nz e2.symm
  have hg : Nat.gcd (isq q.num.natAbs) (isq q.den) = 1 := by
    have hr := q.reduced
    have h3 : Nat.gcd (isq q.num.natAbs) (isq q.den) ∣ Nat.gcd q.num.natAbs q.den := by
      refine Nat.dvd_gcd ?_ ?_
      · exact Nat.dvd_trans (Nat.gcd_dvd_left _ _) ⟨_, e1.symm⟩
      · exact Nat.dvd_trans (Nat.gcd_dvd_right _ _) ⟨_, e2.symm⟩
    have hr' : Nat.gcd q.num.natAbs q.den = 1 := hr
    rw [hr'] at h3
    exact Nat.dvd_one.1 h3
  have a1 := rq_natAbs (s := false) (n := isq q.num.natAbs) hd0
  have a2 := (rq_canon (s := false) (n := isq q.num.natAbs) hd0).2
  have a3 := (rq_canon (s := false) (n := isq q.num.natAbs) hd0).1
  rw [hg, Nat.div_one] at a1 a2 a3
  rw [← hq] at a1 a2 a3
  refine ⟨?_, by rw [a1]; exact h1, by rw [a2]; exact h2, hn, hd⟩
  rw [a3]
  simp [sg]

theorem neg_of_sgn {q : Rat} : decide (qsgn q < 0) = decide (q.num < 0) := by
  rcases qsgn_cases q with ⟨a, b⟩ | ⟨a, b⟩ | ⟨a, b⟩
  · rw [a]; have := num_lt.2 b; simp [this]
  · rw [a, b]; rfl
  · rw [a]; have : ¬ q.num < 0 := by have := num_gt.2 b; omega
    simp [this]

section
variable {w : World} {s : Bool} {no : Option Addr} {nn nc : Nat} {eo : Option Addr} {en ec : Nat} {K : Nat} {q : Rat}
set_option maxHeartbeats 4000000 in
theorem ratSqrt_k (h : Qn w s no nn nc eo en ec q K) (hK1 : 1 ≤ K) (hK : K ≤ 17179869184) :
    Calls Tryz.prog 52 #[.agg #[.bool s, .slice no nn nc, .slice eo en ec]] w (Gqb w K (qsqrt q) (qsq q)) := by
  obtain ⟨w0, hw0, bx, rs, b0⟩ := box1 w (.bool s) (.slice no nn nc) (.slice eo en ec)
  have h0 := h.later b0
  clear h
  obtain ⟨g, hg⟩ : ∃ g, g = w.heap.size := ⟨_, rfl⟩
  have HG : Hid (w.heap.size = g) := hg.symm
  rw [← hg] at bx rs
  obtain ⟨c0, c1, c2⟩ := bx.cells
  go_enter Tryz.func52, Tryz.ntmps52
  go_wp2_with fail
  rw [← hw0, ← hg]
  clear hw0 hg
  refine (ratSign_k h0 hK).mono ?_
  rintro e w1 ⟨rfl, b1⟩
  replace h0 := h0.later b1
  replace bx := bx.later b1
  replace rs := rs.later b1
  have bb1 := b0.trans (b1.mono b0.size)
  clear c0 c1 c2 b0 b1
  obtain ⟨c0, c1, c2⟩ := bx.cells
  have hns := neg_of_sgn (q := q)
  by_cases hn : q.num < 0
  · have hnb : decide (qsgn q < 0) = true := by rw [hns]; simp [hn]
    have hz : qsgn q < 0 := by simpa using hnb
    have HS : Hid (qsq q = false) := by show qsq q = false; unfold qsq; exact decide_eq_false (fun h => h.1 hn)
    have HR : Hid (qsqrt q = 0) := by show qsqrt q = 0; unfold qsqrt; rw [HS.out]; rfl
    clear hn hns
    generalize qsgn q = z at *
    go_wp2_with fail
    refine (rzero_n w1).mono ?_
    rintro e w2 ⟨s1, no1, nn1, nc1, eo1, en1, ec1, rfl, cq, t1, t2, lb⟩
    have rs1 := rs.later lb
    obtain ⟨r0, r1, r2⟩ := rs1.cells
    have f0 := rs1.free 0
    have f1 := rs1.free 1
    have f2 := rs1.free 2
    go_wp2
    rw [HR.out, HS.out]
    exact ret_store2 rfl rfl rfl rfl rs1 (by rw [HG.out]; omega) (cq.mono (by omega)) (bb1.trans (lb.mono bb1.size))
  · have hnb : decide (qsgn q < 0) = false := by rw [hns]; simp [hn]
    have hz : 0 ≤ qsgn q := by simpa using hnb
    have HN : Hid (¬ q.num < 0) := hn
    clear hn hns hnb
    generalize qsgn q = z at *
    go_wp2_with fail
    refine (ratRead_n h0 hK1 hK).mono ?_
    rintro e w2 ⟨s1, no1, nn1, nc1, eo1, en1, ec1, rfl, cq, t1, t2, b2⟩
    replace bx := bx.later b2
    replace rs := rs.later b2
    have bb2 := bb1.trans (b2.mono bb1.size)
    clear c0 c1 c2 bb1 b2 t1 t2 h0
    have y0 := bx.free 0
    have y1 := bx.free 1
    have y2 := bx.free 2
    obtain ⟨x0, x1, x2⟩ := bx.cells
    have fr := Rb.putFr g w2 (.bool s1) (.slice no1 nn1 nc1) (.slice eo1 en1 ec1)
    have cq2 := cq.store bx fr
    have rs2 := rs.keep (fr.block (g + 1) (by omega))
    have bx2 := bx.put (.bool s1) (.slice no1 nn1 nc1) (.slice eo1 en1 ec1)
    have bb3 := bb2.trans (fr.below (by rw [HG.out]; exact Nat.le_refl _))
    clear fr cq rs bb2 bx
    obtain ⟨c0, c1, c2⟩ := bx2.cells
    go_wp2_with fail
    clear x0 x1 x2 y0 y1 y2
    generalize ((w2.setCell ⟨g, 0, none⟩ (.bool s1)).setCell ⟨g, 1, none⟩ (.slice no1 nn1 nc1)).setCell ⟨g, 2, none⟩ (.slice eo1 en1 ec1) = w3 at *
    refine (sqrt_k cq2.num K cq2.ln hK).mono ?_
    rintro e w4 ⟨ro, rn, rc, rfl, sr, lr, b4⟩
    rw [val_toL] at sr ⊢
    replace cq2 := cq2.later b4
    replace rs2 := rs2.later b4
    replace bx2 := bx2.later b4
    have bb4 := bb3.trans (b4.mono bb3.size)
    clear c0 c1 c2 bb3 b4
    obtain ⟨c0, c1, c2⟩ := bx2.cells
    generalize hb1 : decide (isq q.num.natAbs * isq q.num.natAbs = q.num.natAbs) = i1
    have HB1 : Hid _ := hb1
    clear hb1
    go_wp2_with fail
    refine (sqrt_k cq2.den K cq2.ld hK).mono ?_
    rintro e w5 ⟨eo5, en5, ec5, rfl, s5, l5, b5⟩
    rw [val_toL] at s5 ⊢
    replace sr := sr.later b5
    replace rs2 := rs2.later b5
    have bb5 := bb4.trans (b5.mono bb4.size)
    clear c0 c1 c2 bb4 b5 bx2 cq2
    generalize hb2 : decide (isq q.den * isq q.den = q.den) = i2
    have HS : Hid (qsq q = (i1 && i2)) := by
      show qsq q = (i1 && i2)
      rw [← HB1.out, ← hb2]
      unfold qsq
      have hn := HN.out
      by_cases h1 : isq q.num.natAbs * isq q.num.natAbs = q.num.natAbs <;> by_cases h2 : isq q.den * isq q.den = q.den <;> simp [hn, h1, h2]
    clear HB1 hb2
    by_cases hi : i1 = true ∧ i2 = true
    · obtain ⟨rfl, rfl⟩ := hi
      have HS2 : Hid (qsq q = true) := HS.out
      obtain ⟨r0, r1, r2⟩ := rs2.cells
      have f0 := rs2.free 0
      have f1 := rs2.free 1
      have f2 := rs2.free 2
      go_wp2
      have cz := Cq.root HS2.out sr s5 lr l5
      rw [HS2.out]
      exact ret_store2 rfl rfl rfl rfl rs2 (by rw [HG.out]; omega) cz bb5
    · have HS2 : Hid (qsq q = false) := by show qsq q = false; rw [HS.out]; cases i1 <;> cases i2 <;> simp at hi ⊢
      have HR : Hid (qsqrt q = 0) := by show qsqrt q = 0; unfold qsqrt; rw [HS2.out]; rfl
      cases i1
      · clear hi HS
        go_wp2_with fail
        refine (rzero_n w5).mono ?_
        rintro e w6 ⟨s6, no6, nn6, nc6, eo6, en6, ec6, rfl, cz, t1, t2, lb⟩
        have rs1 := rs2.later lb
        obtain ⟨r0, r1, r2⟩ := rs1.cells
        have f0 := rs1.free 0
        have f1 := rs1.free 1
        have f2 := rs1.free 2
        go_wp2
        rw [HR.out, HS2.out]
        exact ret_store2 rfl rfl rfl rfl rs1 (by rw [HG.out]; omega) (cz.mono (by omega)) (bb5.trans (lb.mono bb5.size))
      · cases i2
        · clear hi HS
          go_wp2_with fail
          refine (rzero_n w5).mono ?_
          rintro e w6 ⟨s6, no6, nn6, nc6, eo6, en6, ec6, rfl, cz, t1, t2, lb⟩
          have rs1 := rs2.later lb
          obtain ⟨r0, r1, r2⟩ := rs1.cells
          have f0 := rs1.free 0
          have f1 := rs1.free 1
          have f2 := rs1.free 2
          go_wp2
          rw [HR.out, HS2.out]
          exact ret_store2 rfl rfl rfl rfl rs1 (by rw [HG.out]; omega) (cz.mono (by omega)) (bb5.trans (lb.mono bb5.size))
        · exact absurd ⟨rfl, rfl⟩ hi
end
end Go.Proofs.YtmoicmjljflcgaaGreat

/- rat: isNormal, Check. -/
namespace Go.Proofs.YtmoicmjljflcgaaGreat
open Go.RowKit M Kahn
set_option maxRecDepth 100000

section
variable {w : World} {s : Bool} {no : Option Addr} {nn nc : Nat} {eo : Option Addr} {en ec : Nat} {K : Nat} {q : Rat}
end
end Go.Proofs.YtmoicmjljflcgaaGreat

/- Package rat's functions, by their contracts. -/
