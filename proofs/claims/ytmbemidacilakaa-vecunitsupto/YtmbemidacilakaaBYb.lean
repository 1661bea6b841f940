/- penumbralaw05.VecUnits: true. -/
import Derived.Test.YtmbemidacilakaaAs
namespace Go.Proofs.Ytmbemidacilakaa
open Go.RowKit M Kahn
set_option maxRecDepth 100000

theorem bx_V (w : World) (a0 b0 c0 : RP) : ∃ w0, w0 = (w.alloc (.cells #[.bool a0.s, .slice a0.no a0.nn a0.nc, .slice a0.eo a0.en a0.ec, .bool b0.s, .slice b0.no b0.nn b0.nc, .slice b0.eo b0.en b0.ec, .bool c0.s, .slice c0.no c0.nn c0.nc, .slice c0.eo c0.en c0.ec] 26)) ∧ Vb w0 w.heap.size a0 b0 c0 ∧ Below w.heap.size w w0 := by
  obtain ⟨w1, h1⟩ : ∃ w1, w1 = w.alloc (.cells #[.bool a0.s, .slice a0.no a0.nn a0.nc, .slice a0.eo a0.en a0.ec, .bool b0.s, .slice b0.no b0.nn b0.nc, .slice b0.eo b0.en b0.ec, .bool c0.s, .slice c0.no c0.nn c0.nc, .slice c0.eo c0.en c0.ec] 26) := ⟨_, rfl⟩
  have l1 : Below w.heap.size w w1 := by rw [h1]; exact (Below.refl _ _).alloc (Nat.le_refl _) _
  have z1 : w1.heap.size = w.heap.size + 1 := by rw [h1]; simp
  have r1 : Vb w1 w.heap.size a0 b0 c0 := by rw [h1]; exact ⟨heap_alloc_new _ _⟩
  have b1 := l1
  exact ⟨w1, by rw [h1], r1, b1⟩
set_option maxHeartbeats 16000000 in
theorem vunits_any (w0 : World) (a1 a2 a3 : RP) (qa1 qa2 qa3 : Rat) (K : Nat) (ha : Qv w0 a1 a2 a3 qa1 qa2 qa3 K) (K1 : 1 ≤ K) (hK : K ≤ 1048576) : Calls Try.prog 4 #[.agg #[.bool a1.s, .slice a1.no a1.nn a1.nc, .slice a1.eo a1.en a1.ec, .bool a2.s, .slice a2.no a2.nn a2.nc, .slice a2.eo a2.en a2.ec, .bool a3.s, .slice a3.no a3.nn a3.nc, .slice a3.eo a3.en a3.ec]] w0 fun e w' => e = .returned (.bool true) ∧ Below w0.heap.size w0 w' := by
  have B0 : Below w0.heap.size w0 w0 := Below.refl _ _
  obtain ⟨w1, hw, xa, lb⟩ := bx_V w0 a1 a2 a3
  obtain ⟨ga, hga⟩ : ∃ ga, ga = w0.heap.size := ⟨_, rfl⟩
  replace ha := ha.later lb
  have B1 := B0.trans (lb.mono B0.size)
  clear B0 lb
  obtain ⟨xa_0, xa_1, xa_2⟩ := xa.c0
  obtain ⟨xa_3, xa_4, xa_5⟩ := xa.c1
  obtain ⟨xa_6, xa_7, xa_8⟩ := xa.c2
  rw [hw] at xa_0 xa_1 xa_2 xa_3 xa_4 xa_5 xa_6 xa_7 xa_8
  go_enter Try.func4, Try.ntmps4
  go_wp2_with fail
  rw [← hw, ← hga]
  rw [← hga] at xa
  clear hw hga xa_0 xa_1 xa_2 xa_3 xa_4 xa_5 xa_6 xa_7 xa_8
  refine (vunit_k ha (by omega) (by omega)).mono ?_
  rintro e w2 ⟨ua, ub, uc, ud, rfl, cu, cl, lb⟩
  replace ha := ha.later lb
  replace xa := xa.later lb
  have B2 := B1.trans (lb.mono B1.size)
  clear B1 lb
  generalize hn : qa1 * qa1 + qa2 * qa2 + qa3 * qa3 = n at *
  obtain ⟨xa_0, xa_1, xa_2⟩ := xa.c0
  obtain ⟨xa_3, xa_4, xa_5⟩ := xa.c1
  obtain ⟨xa_6, xa_7, xa_8⟩ := xa.c2
  obtain ⟨w3, hw, xu, xl, lb⟩ := bx_VR w2 ua ub uc ud
  obtain ⟨gu, hgu⟩ : ∃ gu, gu = w2.heap.size := ⟨_, rfl⟩
  rw [← hgu] at xu
  obtain ⟨gl, hgl⟩ : ∃ gl, gl = w2.heap.size + 1 := ⟨_, rfl⟩
  rw [← hgl] at xl
  replace ha := ha.later lb
  replace xa := xa.later lb
  replace cu := cu.later lb
  replace cl := cl.later lb
  have B3 := B2.trans (lb.mono B2.size)
  clear B2 lb
  clear xa_0 xa_1 xa_2 xa_3 xa_4 xa_5 xa_6 xa_7 xa_8
  obtain ⟨xa_0, xa_1, xa_2⟩ := xa.c0
  obtain ⟨xa_3, xa_4, xa_5⟩ := xa.c1
  obtain ⟨xa_6, xa_7, xa_8⟩ := xa.c2
  rw [hw] at xa_0 xa_1 xa_2 xa_3 xa_4 xa_5 xa_6 xa_7 xa_8
  go_wp2_with fail
  rw [← hw, ← hgl, ← hgu]
  clear hw hgu hgl
  clear xa_0 xa_1 xa_2 xa_3 xa_4 xa_5 xa_6 xa_7 xa_8
  refine (vunit5 ha (by omega) (by omega)).mono ?_
  rintro e w4 ⟨va, vb, vc, vd, rfl, cv, cm, lb⟩
  replace ha := ha.later lb
  replace xa := xa.later lb
  replace cu := cu.later lb
  replace cl := cl.later lb
  replace xu := xu.later lb
  replace xl := xl.later lb
  have B4 := B3.trans (lb.mono B3.size)
  clear B3 lb
  rw [hn] at cv cm
  rw [hn]
  obtain ⟨w5, hw, xv, xm, lb⟩ := bx_VR w4 va vb vc vd
  obtain ⟨gv, hgv⟩ : ∃ gv, gv = w4.heap.size := ⟨_, rfl⟩
  rw [← hgv] at xv
  obtain ⟨gm, hgm⟩ : ∃ gm, gm = w4.heap.size + 1 := ⟨_, rfl⟩
  rw [← hgm] at xm
  replace ha := ha.later lb
  replace xa := xa.later lb
  replace cu := cu.later lb
  replace cl := cl.later lb
  replace xu := xu.later lb
  replace xl := xl.later lb
  replace cv := cv.later lb
  replace cm := cm.later lb
  have B5 := B4.trans (lb.mono B4.size)
  clear B4 lb
  go_wp2_with fail
  rw [← hw, ← hgm, ← hgv]
  clear hw hgv hgm
  refine (fixed5_any w5).mono ?_
  rintro e w6 ⟨rfl, lb⟩
  replace ha := ha.later lb
  replace xa := xa.later lb
  replace cu := cu.later lb
  replace cl := cl.later lb
  replace xu := xu.later lb
  replace xl := xl.later lb
  replace cv := cv.later lb
  replace cm := cm.later lb
  replace xv := xv.later lb
  replace xm := xm.later lb
  have B6 := B5.trans (lb.mono B5.size)
  clear B5 lb
  obtain ⟨xu_0, xu_1, xu_2⟩ := xu.c0
  obtain ⟨xu_3, xu_4, xu_5⟩ := xu.c1
  obtain ⟨xu_6, xu_7, xu_8⟩ := xu.c2
  obtain ⟨xv_0, xv_1, xv_2⟩ := xv.c0
  obtain ⟨xv_3, xv_4, xv_5⟩ := xv.c1
  obtain ⟨xv_6, xv_7, xv_8⟩ := xv.c2
  go_wp2_with fail
  clear xu_0 xu_1 xu_2 xu_3 xu_4 xu_5 xu_6 xu_7 xu_8 xv_0 xv_1 xv_2 xv_3 xv_4 xv_5 xv_6 xv_7 xv_8
  refine (vis5 cu cv (by omega) (by omega)).mono ?_
  rintro e w7 ⟨r, rfl, HR, lb⟩
  replace ha := ha.later lb
  replace xa := xa.later lb
  replace cu := cu.later lb
  replace cl := cl.later lb
  replace xu := xu.later lb
  replace xl := xl.later lb
  replace cv := cv.later lb
  replace cm := cm.later lb
  replace xv := xv.later lb
  replace xm := xm.later lb
  have B7 := B6.trans (lb.mono B6.size)
  clear B6 lb
  obtain rfl : r = true := HR.out.2 ⟨rfl, rfl, rfl⟩
  clear HR
  obtain ⟨xl_0, xl_1, xl_2⟩ := xl.cells
  obtain ⟨xm_0, xm_1, xm_2⟩ := xm.cells
  go_wp2_with fail
  clear xl_0 xl_1 xl_2 xm_0 xm_1 xm_2
  refine (is3_any _ _ _ _ _ _ _ _ _ _ _ _ _ _ _ _ _ _ _ cl.num cl.den cm.num cm.den (by have := cl.ln; omega) (by have := cl.ld; omega) (by have := cm.ln; omega) (by have := cm.ld; omega)).mono ?_
  rintro e w8 ⟨r, rfl, HR, lb⟩
  replace ha := ha.later lb
  replace xa := xa.later lb
  replace cu := cu.later lb
  replace cl := cl.later lb
  replace xu := xu.later lb
  replace xl := xl.later lb
  replace cv := cv.later lb
  replace cm := cm.later lb
  replace xv := xv.later lb
  replace xm := xm.later lb
  have B8 := B7.trans (lb.mono B7.size)
  clear B7 lb
  obtain rfl : r = true := HR.out.2 (cq_same cl cm rfl)
  clear HR
  have hb0 : (uok n == uok n) = true := by simp
  go_wp2
  go_ret
  exact ⟨rfl, B8⟩
end Go.Proofs.Ytmbemidacilakaa
