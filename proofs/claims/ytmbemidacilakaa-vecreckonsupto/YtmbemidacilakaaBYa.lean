/- penumbralaw05.VecReckons: true. -/
import Derived.Test.YtmbemidacilakaaAs
namespace Go.Proofs.Ytmbemidacilakaa
open Go.RowKit M Kahn
set_option maxRecDepth 100000

theorem bx_VVR (w : World) (a0 b0 c0 a1 b1 c1 a2 : RP) : ∃ w0, w0 = (((w.alloc (.cells #[.bool a0.s, .slice a0.no a0.nn a0.nc, .slice a0.eo a0.en a0.ec, .bool b0.s, .slice b0.no b0.nn b0.nc, .slice b0.eo b0.en b0.ec, .bool c0.s, .slice c0.no c0.nn c0.nc, .slice c0.eo c0.en c0.ec] 26)).alloc (.cells #[.bool a1.s, .slice a1.no a1.nn a1.nc, .slice a1.eo a1.en a1.ec, .bool b1.s, .slice b1.no b1.nn b1.nc, .slice b1.eo b1.en b1.ec, .bool c1.s, .slice c1.no c1.nn c1.nc, .slice c1.eo c1.en c1.ec] 26)).alloc (.cells #[.bool a2.s, .slice a2.no a2.nn a2.nc, .slice a2.eo a2.en a2.ec] 24)) ∧ Vb w0 w.heap.size a0 b0 c0 ∧ Vb w0 (w.heap.size + 1) a1 b1 c1 ∧ Rb w0 (w.heap.size + 2) (.bool a2.s) (.slice a2.no a2.nn a2.nc) (.slice a2.eo a2.en a2.ec) ∧ Below w.heap.size w w0 := by
  obtain ⟨w1, h1⟩ : ∃ w1, w1 = w.alloc (.cells #[.bool a0.s, .slice a0.no a0.nn a0.nc, .slice a0.eo a0.en a0.ec, .bool b0.s, .slice b0.no b0.nn b0.nc, .slice b0.eo b0.en b0.ec, .bool c0.s, .slice c0.no c0.nn c0.nc, .slice c0.eo c0.en c0.ec] 26) := ⟨_, rfl⟩
  have l1 : Below w.heap.size w w1 := by rw [h1]; exact (Below.refl _ _).alloc (Nat.le_refl _) _
  have z1 : w1.heap.size = w.heap.size + 1 := by rw [h1]; simp
  have r1 : Vb w1 w.heap.size a0 b0 c0 := by rw [h1]; exact ⟨heap_alloc_new _ _⟩
  obtain ⟨w2, h2⟩ : ∃ w2, w2 = w1.alloc (.cells #[.bool a1.s, .slice a1.no a1.nn a1.nc, .slice a1.eo a1.en a1.ec, .bool b1.s, .slice b1.no b1.nn b1.nc, .slice b1.eo b1.en b1.ec, .bool c1.s, .slice c1.no c1.nn c1.nc, .slice c1.eo c1.en c1.ec] 26) := ⟨_, rfl⟩
  have l2 : Below w1.heap.size w1 w2 := by rw [h2]; exact (Below.refl _ _).alloc (Nat.le_refl _) _
  have z2 : w2.heap.size = w1.heap.size + 1 := by rw [h2]; simp
  have r2 : Vb w2 w1.heap.size a1 b1 c1 := by rw [h2]; exact ⟨heap_alloc_new _ _⟩
  obtain ⟨w3, h3⟩ : ∃ w3, w3 = w2.alloc (.cells #[.bool a2.s, .slice a2.no a2.nn a2.nc, .slice a2.eo a2.en a2.ec] 24) := ⟨_, rfl⟩
  have l3 : Below w2.heap.size w2 w3 := by rw [h3]; exact (Below.refl _ _).alloc (Nat.le_refl _) _
  have z3 : w3.heap.size = w2.heap.size + 1 := by rw [h3]; simp
  have r3 : Rb w3 w2.heap.size (.bool a2.s) (.slice a2.no a2.nn a2.nc) (.slice a2.eo a2.en a2.ec) := by rw [h3]; exact ⟨heap_alloc_new _ _⟩
  replace r1 := r1.later l2
  replace r1 := r1.later l3
  replace r2 := r2.later l3
  have b1 := l1
  have b2 := b1.trans (l2.mono b1.size)
  have b3 := b2.trans (l3.mono b2.size)
  rw [show w1.heap.size = w.heap.size + 1 from by omega] at r2
  rw [show w2.heap.size = w.heap.size + 2 from by omega] at r3
  exact ⟨w3, by rw [h3, h2, h1], r1, r2, r3, b3⟩
set_option maxHeartbeats 16000000 in
theorem vreckons_any (w0 : World) (a1 a2 a3 : RP) (b1 b2 b3 : RP) (k : RP) (qa1 qa2 qa3 qb1 qb2 qb3 qk : Rat) (K : Nat) (ha : Qv w0 a1 a2 a3 qa1 qa2 qa3 K) (hb : Qv w0 b1 b2 b3 qb1 qb2 qb3 K) (hk : Qp w0 k qk K) (K1 : 1 ≤ K) (hK : K ≤ 1048576) : Calls Try.prog 3 #[.agg #[.bool a1.s, .slice a1.no a1.nn a1.nc, .slice a1.eo a1.en a1.ec, .bool a2.s, .slice a2.no a2.nn a2.nc, .slice a2.eo a2.en a2.ec, .bool a3.s, .slice a3.no a3.nn a3.nc, .slice a3.eo a3.en a3.ec], .agg #[.bool b1.s, .slice b1.no b1.nn b1.nc, .slice b1.eo b1.en b1.ec, .bool b2.s, .slice b2.no b2.nn b2.nc, .slice b2.eo b2.en b2.ec, .bool b3.s, .slice b3.no b3.nn b3.nc, .slice b3.eo b3.en b3.ec], .agg #[.bool k.s, .slice k.no k.nn k.nc, .slice k.eo k.en k.ec]] w0 fun e w' => e = .returned (.bool true) ∧ Below w0.heap.size w0 w' := by
  have B0 : Below w0.heap.size w0 w0 := Below.refl _ _
  obtain ⟨w1, hw, xa, xb, xk, lb⟩ := bx_VVR w0 a1 a2 a3 b1 b2 b3 k
  obtain ⟨ga, hga⟩ : ∃ ga, ga = w0.heap.size := ⟨_, rfl⟩
  obtain ⟨gb, hgb⟩ : ∃ gb, gb = w0.heap.size + 1 := ⟨_, rfl⟩
  obtain ⟨gk, hgk⟩ : ∃ gk, gk = w0.heap.size + 2 := ⟨_, rfl⟩
  replace ha := ha.later lb
  replace hb := hb.later lb
  replace hk := hk.later lb
  have B1 := B0.trans (lb.mono B0.size)
  clear B0 lb
  obtain ⟨xa_0, xa_1, xa_2⟩ := xa.c0
  obtain ⟨xa_3, xa_4, xa_5⟩ := xa.c1
  obtain ⟨xa_6, xa_7, xa_8⟩ := xa.c2
  obtain ⟨xb_0, xb_1, xb_2⟩ := xb.c0
  obtain ⟨xb_3, xb_4, xb_5⟩ := xb.c1
  obtain ⟨xb_6, xb_7, xb_8⟩ := xb.c2
  obtain ⟨xk_0, xk_1, xk_2⟩ := xk.cells
  rw [hw] at xa_0 xa_1 xa_2 xa_3 xa_4 xa_5 xa_6 xa_7 xa_8 xb_0 xb_1 xb_2 xb_3 xb_4 xb_5 xb_6 xb_7 xb_8 xk_0 xk_1 xk_2
  go_enter Try.func3, Try.ntmps3
  go_wp2
  rw [← hw, ← hgk, ← hgb, ← hga]
  rw [← hga] at xa
  rw [← hgb] at xb
  rw [← hgk] at xk
  clear hw hga hgb hgk xa_0 xa_1 xa_2 xa_3 xa_4 xa_5 xa_6 xa_7 xa_8 xb_0 xb_1 xb_2 xb_3 xb_4 xb_5 xb_6 xb_7 xb_8 xk_0 xk_1 xk_2
  have HLst : Lst [VV (.bool true), VV (.bool true), VV (.agg #[.bool a1.s, .slice a1.no a1.nn a1.nc, .slice a1.eo a1.en a1.ec, .bool a2.s, .slice a2.no a2.nn a2.nc, .slice a2.eo a2.en a2.ec, .bool a3.s, .slice a3.no a3.nn a3.nc, .slice a3.eo a3.en a3.ec]), VV (.agg #[.bool b1.s, .slice b1.no b1.nn b1.nc, .slice b1.eo b1.en b1.ec, .bool b2.s, .slice b2.no b2.nn b2.nc, .slice b2.eo b2.en b2.ec, .bool b3.s, .slice b3.no b3.nn b3.nc, .slice b3.eo b3.en b3.ec]), VW [qa1, qb1] [qa2, qb2] [qa3, qb3] (K), VG (qa1 + qb1) (qa2 + qb2) (qa3 + qb3) (2 * (K + 1) + 1), VV (.agg #[.bool a1.s, .slice a1.no a1.nn a1.nc, .slice a1.eo a1.en a1.ec, .bool a2.s, .slice a2.no a2.nn a2.nc, .slice a2.eo a2.en a2.ec, .bool a3.s, .slice a3.no a3.nn a3.nc, .slice a3.eo a3.en a3.ec]), VV (.agg #[.bool b1.s, .slice b1.no b1.nn b1.nc, .slice b1.eo b1.en b1.ec, .bool b2.s, .slice b2.no b2.nn b2.nc, .slice b2.eo b2.en b2.ec, .bool b3.s, .slice b3.no b3.nn b3.nc, .slice b3.eo b3.en b3.ec]), VG (qa1 + qb1) (qa2 + qb2) (qa3 + qb3) (K + (K) + 1), VV (.bool true), VV (.bool true), VV (.bool true), VV (.agg #[.bool a1.s, .slice a1.no a1.nn a1.nc, .slice a1.eo a1.en a1.ec, .bool a2.s, .slice a2.no a2.nn a2.nc, .slice a2.eo a2.en a2.ec, .bool a3.s, .slice a3.no a3.nn a3.nc, .slice a3.eo a3.en a3.ec]), VV (.agg #[.bool b1.s, .slice b1.no b1.nn b1.nc, .slice b1.eo b1.en b1.ec, .bool b2.s, .slice b2.no b2.nn b2.nc, .slice b2.eo b2.en b2.ec, .bool b3.s, .slice b3.no b3.nn b3.nc, .slice b3.eo b3.en b3.ec]), VG (qa1 - qb1) (qa2 - qb2) (qa3 - qb3) (K + (K) + 1), VV (.agg #[.bool a1.s, .slice a1.no a1.nn a1.nc, .slice a1.eo a1.en a1.ec, .bool a2.s, .slice a2.no a2.nn a2.nc, .slice a2.eo a2.en a2.ec, .bool a3.s, .slice a3.no a3.nn a3.nc, .slice a3.eo a3.en a3.ec]), VV (.agg #[.bool b1.s, .slice b1.no b1.nn b1.nc, .slice b1.eo b1.en b1.ec, .bool b2.s, .slice b2.no b2.nn b2.nc, .slice b2.eo b2.en b2.ec, .bool b3.s, .slice b3.no b3.nn b3.nc, .slice b3.eo b3.en b3.ec]), VG (qa1 - qb1) (qa2 - qb2) (qa3 - qb3) (K + (K) + 1), VV (.bool true), VV (.bool true), VV (.bool true), VV (.agg #[.bool k.s, .slice k.no k.nn k.nc, .slice k.eo k.en k.ec]), VV (.agg #[.bool a1.s, .slice a1.no a1.nn a1.nc, .slice a1.eo a1.en a1.ec, .bool a2.s, .slice a2.no a2.nn a2.nc, .slice a2.eo a2.en a2.ec, .bool a3.s, .slice a3.no a3.nn a3.nc, .slice a3.eo a3.en a3.ec]), VG (qk * qa1) (qk * qa2) (qk * qa3) (K + (K)), VV (.agg #[.bool k.s, .slice k.no k.nn k.nc, .slice k.eo k.en k.ec]), VV (.agg #[.bool a1.s, .slice a1.no a1.nn a1.nc, .slice a1.eo a1.en a1.ec, .bool a2.s, .slice a2.no a2.nn a2.nc, .slice a2.eo a2.en a2.ec, .bool a3.s, .slice a3.no a3.nn a3.nc, .slice a3.eo a3.en a3.ec]), VG (qk * qa1) (qk * qa2) (qk * qa3) (K + (K)), VV (.bool true), VV (.bool true), VV (.bool true), VV (.agg #[.bool a1.s, .slice a1.no a1.nn a1.nc, .slice a1.eo a1.en a1.ec, .bool a2.s, .slice a2.no a2.nn a2.nc, .slice a2.eo a2.en a2.ec, .bool a3.s, .slice a3.no a3.nn a3.nc, .slice a3.eo a3.en a3.ec]), VV (.agg #[.bool b1.s, .slice b1.no b1.nn b1.nc, .slice b1.eo b1.en b1.ec, .bool b2.s, .slice b2.no b2.nn b2.nc, .slice b2.eo b2.en b2.ec, .bool b3.s, .slice b3.no b3.nn b3.nc, .slice b3.eo b3.en b3.ec]), VC (qa1 * qb1 + qa2 * qb2 + qa3 * qb3) (3 * (K + (K)) + 2), VV (.agg #[.bool a1.s, .slice a1.no a1.nn a1.nc, .slice a1.eo a1.en a1.ec, .bool a2.s, .slice a2.no a2.nn a2.nc, .slice a2.eo a2.en a2.ec, .bool a3.s, .slice a3.no a3.nn a3.nc, .slice a3.eo a3.en a3.ec]), VV (.agg #[.bool b1.s, .slice b1.no b1.nn b1.nc, .slice b1.eo b1.en b1.ec, .bool b2.s, .slice b2.no b2.nn b2.nc, .slice b2.eo b2.en b2.ec, .bool b3.s, .slice b3.no b3.nn b3.nc, .slice b3.eo b3.en b3.ec]), VC (qa1 * qb1 + qa2 * qb2 + qa3 * qb3) (3 * (K + (K)) + 2), VV (.bool true), VV (.bool true), VV (.bool true), VV (.agg #[.bool a1.s, .slice a1.no a1.nn a1.nc, .slice a1.eo a1.en a1.ec, .bool a2.s, .slice a2.no a2.nn a2.nc, .slice a2.eo a2.en a2.ec, .bool a3.s, .slice a3.no a3.nn a3.nc, .slice a3.eo a3.en a3.ec]), VV (.agg #[.bool b1.s, .slice b1.no b1.nn b1.nc, .slice b1.eo b1.en b1.ec, .bool b2.s, .slice b2.no b2.nn b2.nc, .slice b2.eo b2.en b2.ec, .bool b3.s, .slice b3.no b3.nn b3.nc, .slice b3.eo b3.en b3.ec]), VG (qa2 * qb3 - qa3 * qb2) (qa3 * qb1 - qa1 * qb3) (qa1 * qb2 - qa2 * qb1) (K + (K) + (K + (K)) + 1), VV (.agg #[.bool a1.s, .slice a1.no a1.nn a1.nc, .slice a1.eo a1.en a1.ec, .bool a2.s, .slice a2.no a2.nn a2.nc, .slice a2.eo a2.en a2.ec, .bool a3.s, .slice a3.no a3.nn a3.nc, .slice a3.eo a3.en a3.ec]), VV (.agg #[.bool b1.s, .slice b1.no b1.nn b1.nc, .slice b1.eo b1.en b1.ec, .bool b2.s, .slice b2.no b2.nn b2.nc, .slice b2.eo b2.en b2.ec, .bool b3.s, .slice b3.no b3.nn b3.nc, .slice b3.eo b3.en b3.ec]), VG (qa2 * qb3 - qa3 * qb2) (qa3 * qb1 - qa1 * qb3) (qa1 * qb2 - qa2 * qb1) (K + (K) + (K + (K)) + 1), VV (.bool true), VV (.bool true), VV (.bool true), VV (.agg #[.bool a1.s, .slice a1.no a1.nn a1.nc, .slice a1.eo a1.en a1.ec, .bool a2.s, .slice a2.no a2.nn a2.nc, .slice a2.eo a2.en a2.ec, .bool a3.s, .slice a3.no a3.nn a3.nc, .slice a3.eo a3.en a3.ec]), VG (qa1) (qa2) (qa3) (K), VV (.agg #[.bool a1.s, .slice a1.no a1.nn a1.nc, .slice a1.eo a1.en a1.ec, .bool a2.s, .slice a2.no a2.nn a2.nc, .slice a2.eo a2.en a2.ec, .bool a3.s, .slice a3.no a3.nn a3.nc, .slice a3.eo a3.en a3.ec]), VG (qa1) (qa2) (qa3) (K), VV (.bool true), VV (.bool true), VV (.bool true), VV (.agg #[.bool a1.s, .slice a1.no a1.nn a1.nc, .slice a1.eo a1.en a1.ec, .bool a2.s, .slice a2.no a2.nn a2.nc, .slice a2.eo a2.en a2.ec, .bool a3.s, .slice a3.no a3.nn a3.nc, .slice a3.eo a3.en a3.ec]), VV (.agg #[.bool b1.s, .slice b1.no b1.nn b1.nc, .slice b1.eo b1.en b1.ec, .bool b2.s, .slice b2.no b2.nn b2.nc, .slice b2.eo b2.en b2.ec, .bool b3.s, .slice b3.no b3.nn b3.nc, .slice b3.eo b3.en b3.ec]), VB (qa1 = qb1 ∧ qa2 = qb2 ∧ qa3 = qb3), VV (.agg #[.bool a1.s, .slice a1.no a1.nn a1.nc, .slice a1.eo a1.en a1.ec, .bool a2.s, .slice a2.no a2.nn a2.nc, .slice a2.eo a2.en a2.ec, .bool a3.s, .slice a3.no a3.nn a3.nc, .slice a3.eo a3.en a3.ec]), VG (qa1) (qa2) (qa3) (K), VV (.agg #[.bool b1.s, .slice b1.no b1.nn b1.nc, .slice b1.eo b1.en b1.ec, .bool b2.s, .slice b2.no b2.nn b2.nc, .slice b2.eo b2.en b2.ec, .bool b3.s, .slice b3.no b3.nn b3.nc, .slice b3.eo b3.en b3.ec]), VG (qb1) (qb2) (qb3) (K), VB (qa1 = qb1 ∧ qa2 = qb2 ∧ qa3 = qb3), VV (.bool true), VV (.bool true)] := ⟨VV.lasts _, VV.lasts _, VV.lasts _, VV.lasts _, VW.lasts _ _ _ _, VG.lasts _ _ _ _, VV.lasts _, VV.lasts _, VG.lasts _ _ _ _, VV.lasts _, VV.lasts _, VV.lasts _, VV.lasts _, VV.lasts _, VG.lasts _ _ _ _, VV.lasts _, VV.lasts _, VG.lasts _ _ _ _, VV.lasts _, VV.lasts _, VV.lasts _, VV.lasts _, VV.lasts _, VG.lasts _ _ _ _, VV.lasts _, VV.lasts _, VG.lasts _ _ _ _, VV.lasts _, VV.lasts _, VV.lasts _, VV.lasts _, VV.lasts _, VC.lasts _ _, VV.lasts _, VV.lasts _, VC.lasts _ _, VV.lasts _, VV.lasts _, VV.lasts _, VV.lasts _, VV.lasts _, VG.lasts _ _ _ _, VV.lasts _, VV.lasts _, VG.lasts _ _ _ _, VV.lasts _, VV.lasts _, VV.lasts _, VV.lasts _, VG.lasts _ _ _ _, VV.lasts _, VG.lasts _ _ _ _, VV.lasts _, VV.lasts _, VV.lasts _, VV.lasts _, VV.lasts _, VB.lasts _, VV.lasts _, VG.lasts _ _ _ _, VV.lasts _, VG.lasts _ _ _ _, VB.lasts _, VV.lasts _, VV.lasts _, trivial⟩
  refine wp_region_kahn 65 72 [([], []), ([(0, 7)], []), ([], [3]), ([], [4]), ([(2, 9), (3, 10)], []), ([(4, 11)], []), ([], [3]), ([], [4]), ([(6, 13), (7, 14)], []), ([(5, 12), (8, 15)], []), ([(1, 8), (9, 16)], []), ([(10, 17)], []), ([], [3]), ([], [4]), ([(12, 19), (13, 20)], []), ([], [3]), ([], [4]), ([(15, 22), (16, 23)], []), ([(14, 21), (17, 24)], []), ([(11, 18), (18, 25)], []), ([(19, 26)], []), ([], [5]), ([], [3]), ([(21, 28), (22, 29)], []), ([], [5]), ([], [3]), ([(24, 31), (25, 32)], []), ([(23, 30), (26, 33)], []), ([(20, 27), (27, 34)], []), ([(28, 35)], []), ([], [3]), ([], [4]), ([(30, 37), (31, 38)], []), ([], [3]), ([], [4]), ([(33, 40), (34, 41)], []), ([(32, 39), (35, 42)], []), ([(29, 36), (36, 43)], []), ([(37, 44)], []), ([], [3]), ([], [4]), ([(39, 46), (40, 47)], []), ([], [3]), ([], [4]), ([(42, 49), (43, 50)], []), ([(41, 48), (44, 51)], []), ([(38, 45), (45, 52)], []), ([(46, 53)], []), ([], [3]), ([(48, 55)], []), ([], [3]), ([(50, 57)], []), ([(49, 56), (51, 58)], []), ([(47, 54), (52, 59)], []), ([(53, 60)], []), ([], [3]), ([], [4]), ([(55, 62), (56, 63)], []), ([], [3]), ([(58, 65)], []), ([], [4]), ([(60, 67)], []), ([(59, 66), (61, 68)], []), ([(57, 64), (62, 69)], []), ([(54, 61), (63, 70)], [])]
    (fun u => Below w1.heap.size w1 u) (fun u u' => Below u.heap.size u u')
    (Sp [VV (.bool true), VV (.bool true), VV (.agg #[.bool a1.s, .slice a1.no a1.nn a1.nc, .slice a1.eo a1.en a1.ec, .bool a2.s, .slice a2.no a2.nn a2.nc, .slice a2.eo a2.en a2.ec, .bool a3.s, .slice a3.no a3.nn a3.nc, .slice a3.eo a3.en a3.ec]), VV (.agg #[.bool b1.s, .slice b1.no b1.nn b1.nc, .slice b1.eo b1.en b1.ec, .bool b2.s, .slice b2.no b2.nn b2.nc, .slice b2.eo b2.en b2.ec, .bool b3.s, .slice b3.no b3.nn b3.nc, .slice b3.eo b3.en b3.ec]), VW [qa1, qb1] [qa2, qb2] [qa3, qb3] (K), VG (qa1 + qb1) (qa2 + qb2) (qa3 + qb3) (2 * (K + 1) + 1), VV (.agg #[.bool a1.s, .slice a1.no a1.nn a1.nc, .slice a1.eo a1.en a1.ec, .bool a2.s, .slice a2.no a2.nn a2.nc, .slice a2.eo a2.en a2.ec, .bool a3.s, .slice a3.no a3.nn a3.nc, .slice a3.eo a3.en a3.ec]), VV (.agg #[.bool b1.s, .slice b1.no b1.nn b1.nc, .slice b1.eo b1.en b1.ec, .bool b2.s, .slice b2.no b2.nn b2.nc, .slice b2.eo b2.en b2.ec, .bool b3.s, .slice b3.no b3.nn b3.nc, .slice b3.eo b3.en b3.ec]), VG (qa1 + qb1) (qa2 + qb2) (qa3 + qb3) (K + (K) + 1), VV (.bool true), VV (.bool true), VV (.bool true), VV (.agg #[.bool a1.s, .slice a1.no a1.nn a1.nc, .slice a1.eo a1.en a1.ec, .bool a2.s, .slice a2.no a2.nn a2.nc, .slice a2.eo a2.en a2.ec, .bool a3.s, .slice a3.no a3.nn a3.nc, .slice a3.eo a3.en a3.ec]), VV (.agg #[.bool b1.s, .slice b1.no b1.nn b1.nc, .slice b1.eo b1.en b1.ec, .bool b2.s, .slice b2.no b2.nn b2.nc, .slice b2.eo b2.en b2.ec, .bool b3.s, .slice b3.no b3.nn b3.nc, .slice b3.eo b3.en b3.ec]), VG (qa1 - qb1) (qa2 - qb2) (qa3 - qb3) (K + (K) + 1), VV (.agg #[.bool a1.s, .slice a1.no a1.nn a1.nc, .slice a1.eo a1.en a1.ec, .bool a2.s, .slice a2.no a2.nn a2.nc, .slice a2.eo a2.en a2.ec, .bool a3.s, .slice a3.no a3.nn a3.nc, .slice a3.eo a3.en a3.ec]), VV (.agg #[.bool b1.s, .slice b1.no b1.nn b1.nc, .slice b1.eo b1.en b1.ec, .bool b2.s, .slice b2.no b2.nn b2.nc, .slice b2.eo b2.en b2.ec, .bool b3.s, .slice b3.no b3.nn b3.nc, .slice b3.eo b3.en b3.ec]), VG (qa1 - qb1) (qa2 - qb2) (qa3 - qb3) (K + (K) + 1), VV (.bool true), VV (.bool true), VV (.bool true), VV (.agg #[.bool k.s, .slice k.no k.nn k.nc, .slice k.eo k.en k.ec]), VV (.agg #[.bool a1.s, .slice a1.no a1.nn a1.nc, .slice a1.eo a1.en a1.ec, .bool a2.s, .slice a2.no a2.nn a2.nc, .slice a2.eo a2.en a2.ec, .bool a3.s, .slice a3.no a3.nn a3.nc, .slice a3.eo a3.en a3.ec]), VG (qk * qa1) (qk * qa2) (qk * qa3) (K + (K)), VV (.agg #[.bool k.s, .slice k.no k.nn k.nc, .slice k.eo k.en k.ec]), VV (.agg #[.bool a1.s, .slice a1.no a1.nn a1.nc, .slice a1.eo a1.en a1.ec, .bool a2.s, .slice a2.no a2.nn a2.nc, .slice a2.eo a2.en a2.ec, .bool a3.s, .slice a3.no a3.nn a3.nc, .slice a3.eo a3.en a3.ec]), VG (qk * qa1) (qk * qa2) (qk * qa3) (K + (K)), VV (.bool true), VV (.bool true), VV (.bool true), VV (.agg #[.bool a1.s, .slice a1.no a1.nn a1.nc, .slice a1.eo a1.en a1.ec, .bool a2.s, .slice a2.no a2.nn a2.nc, .slice a2.eo a2.en a2.ec, .bool a3.s, .slice a3.no a3.nn a3.nc, .slice a3.eo a3.en a3.ec]), VV (.agg #[.bool b1.s, .slice b1.no b1.nn b1.nc, .slice b1.eo b1.en b1.ec, .bool b2.s, .slice b2.no b2.nn b2.nc, .slice b2.eo b2.en b2.ec, .bool b3.s, .slice b3.no b3.nn b3.nc, .slice b3.eo b3.en b3.ec]), VC (qa1 * qb1 + qa2 * qb2 + qa3 * qb3) (3 * (K + (K)) + 2), VV (.agg #[.bool a1.s, .slice a1.no a1.nn a1.nc, .slice a1.eo a1.en a1.ec, .bool a2.s, .slice a2.no a2.nn a2.nc, .slice a2.eo a2.en a2.ec, .bool a3.s, .slice a3.no a3.nn a3.nc, .slice a3.eo a3.en a3.ec]), VV (.agg #[.bool b1.s, .slice b1.no b1.nn b1.nc, .slice b1.eo b1.en b1.ec, .bool b2.s, .slice b2.no b2.nn b2.nc, .slice b2.eo b2.en b2.ec, .bool b3.s, .slice b3.no b3.nn b3.nc, .slice b3.eo b3.en b3.ec]), VC (qa1 * qb1 + qa2 * qb2 + qa3 * qb3) (3 * (K + (K)) + 2), VV (.bool true), VV (.bool true), VV (.bool true), VV (.agg #[.bool a1.s, .slice a1.no a1.nn a1.nc, .slice a1.eo a1.en a1.ec, .bool a2.s, .slice a2.no a2.nn a2.nc, .slice a2.eo a2.en a2.ec, .bool a3.s, .slice a3.no a3.nn a3.nc, .slice a3.eo a3.en a3.ec]), VV (.agg #[.bool b1.s, .slice b1.no b1.nn b1.nc, .slice b1.eo b1.en b1.ec, .bool b2.s, .slice b2.no b2.nn b2.nc, .slice b2.eo b2.en b2.ec, .bool b3.s, .slice b3.no b3.nn b3.nc, .slice b3.eo b3.en b3.ec]), VG (qa2 * qb3 - qa3 * qb2) (qa3 * qb1 - qa1 * qb3) (qa1 * qb2 - qa2 * qb1) (K + (K) + (K + (K)) + 1), VV (.agg #[.bool a1.s, .slice a1.no a1.nn a1.nc, .slice a1.eo a1.en a1.ec, .bool a2.s, .slice a2.no a2.nn a2.nc, .slice a2.eo a2.en a2.ec, .bool a3.s, .slice a3.no a3.nn a3.nc, .slice a3.eo a3.en a3.ec]), VV (.agg #[.bool b1.s, .slice b1.no b1.nn b1.nc, .slice b1.eo b1.en b1.ec, .bool b2.s, .slice b2.no b2.nn b2.nc, .slice b2.eo b2.en b2.ec, .bool b3.s, .slice b3.no b3.nn b3.nc, .slice b3.eo b3.en b3.ec]), VG (qa2 * qb3 - qa3 * qb2) (qa3 * qb1 - qa1 * qb3) (qa1 * qb2 - qa2 * qb1) (K + (K) + (K + (K)) + 1), VV (.bool true), VV (.bool true), VV (.bool true), VV (.agg #[.bool a1.s, .slice a1.no a1.nn a1.nc, .slice a1.eo a1.en a1.ec, .bool a2.s, .slice a2.no a2.nn a2.nc, .slice a2.eo a2.en a2.ec, .bool a3.s, .slice a3.no a3.nn a3.nc, .slice a3.eo a3.en a3.ec]), VG (qa1) (qa2) (qa3) (K), VV (.agg #[.bool a1.s, .slice a1.no a1.nn a1.nc, .slice a1.eo a1.en a1.ec, .bool a2.s, .slice a2.no a2.nn a2.nc, .slice a2.eo a2.en a2.ec, .bool a3.s, .slice a3.no a3.nn a3.nc, .slice a3.eo a3.en a3.ec]), VG (qa1) (qa2) (qa3) (K), VV (.bool true), VV (.bool true), VV (.bool true), VV (.agg #[.bool a1.s, .slice a1.no a1.nn a1.nc, .slice a1.eo a1.en a1.ec, .bool a2.s, .slice a2.no a2.nn a2.nc, .slice a2.eo a2.en a2.ec, .bool a3.s, .slice a3.no a3.nn a3.nc, .slice a3.eo a3.en a3.ec]), VV (.agg #[.bool b1.s, .slice b1.no b1.nn b1.nc, .slice b1.eo b1.en b1.ec, .bool b2.s, .slice b2.no b2.nn b2.nc, .slice b2.eo b2.en b2.ec, .bool b3.s, .slice b3.no b3.nn b3.nc, .slice b3.eo b3.en b3.ec]), VB (qa1 = qb1 ∧ qa2 = qb2 ∧ qa3 = qb3), VV (.agg #[.bool a1.s, .slice a1.no a1.nn a1.nc, .slice a1.eo a1.en a1.ec, .bool a2.s, .slice a2.no a2.nn a2.nc, .slice a2.eo a2.en a2.ec, .bool a3.s, .slice a3.no a3.nn a3.nc, .slice a3.eo a3.en a3.ec]), VG (qa1) (qa2) (qa3) (K), VV (.agg #[.bool b1.s, .slice b1.no b1.nn b1.nc, .slice b1.eo b1.en b1.ec, .bool b2.s, .slice b2.no b2.nn b2.nc, .slice b2.eo b2.en b2.ec, .bool b3.s, .slice b3.no b3.nn b3.nc, .slice b3.eo b3.en b3.ec]), VG (qb1) (qb2) (qb3) (K), VB (qa1 = qb1 ∧ qa2 = qb2 ∧ qa3 = qb3), VV (.bool true), VV (.bool true)])
    (by kernel_rfl) rfl (by kernel_rfl) (Below.refl _ _).drew (fun k v u u' _ hg hs => Sp.lasts HLst k v u u' hg hs) ?_ ?_
  · clear HLst
    refine ⟨.inl ⟨by simp, fun ρ u hC hc hf hd ho => ?_⟩, .inl ⟨by simp, fun ρ u hC hc hf hd ho => ?_⟩, .inl ⟨guard_of rfl fun _ _ h => h, fun ρ u hC hc hf hd ho => ?_⟩, .inl ⟨guard_of rfl fun _ _ h => h, fun ρ u hC hc hf hd ho => ?_⟩, .inl ⟨guard_of rfl fun _ _ h => h, fun ρ u hC hc hf hd ho => ?_⟩, .inl ⟨guard_of rfl fun _ _ h => h, fun ρ u hC hc hf hd ho => ?_⟩, .inl ⟨guard_of rfl fun _ _ h => h, fun ρ u hC hc hf hd ho => ?_⟩, .inl ⟨guard_of rfl fun _ _ h => h, fun ρ u hC hc hf hd ho => ?_⟩, .inl ⟨guard_of rfl fun _ _ h => h, fun ρ u hC hc hf hd ho => ?_⟩, .inl ⟨guard_of rfl fun _ _ h => h, fun ρ u hC hc hf hd ho => ?_⟩, .inl ⟨by simp, fun ρ u hC hc hf hd ho => ?_⟩, .inl ⟨by simp, fun ρ u hC hc hf hd ho => ?_⟩, .inl ⟨guard_of rfl fun _ _ h => h, fun ρ u hC hc hf hd ho => ?_⟩, .inl ⟨guard_of rfl fun _ _ h => h, fun ρ u hC hc hf hd ho => ?_⟩, .inl ⟨guard_of rfl fun _ _ h => h, fun ρ u hC hc hf hd ho => ?_⟩, .inl ⟨guard_of rfl fun _ _ h => h, fun ρ u hC hc hf hd ho => ?_⟩, .inl ⟨guard_of rfl fun _ _ h => h, fun ρ u hC hc hf hd ho => ?_⟩, .inl ⟨guard_of rfl fun _ _ h => h, fun ρ u hC hc hf hd ho => ?_⟩, .inl ⟨guard_of rfl fun _ _ h => h, fun ρ u hC hc hf hd ho => ?_⟩, .inl ⟨by simp, fun ρ u hC hc hf hd ho => ?_⟩, .inl ⟨by simp, fun ρ u hC hc hf hd ho => ?_⟩, .inl ⟨guard_of rfl fun _ _ h => h, fun ρ u hC hc hf hd ho => ?_⟩, .inl ⟨guard_of rfl fun _ _ h => h, fun ρ u hC hc hf hd ho => ?_⟩, .inl ⟨guard_of rfl fun _ _ h => h, fun ρ u hC hc hf hd ho => ?_⟩, .inl ⟨guard_of rfl fun _ _ h => h, fun ρ u hC hc hf hd ho => ?_⟩, .inl ⟨guard_of rfl fun _ _ h => h, fun ρ u hC hc hf hd ho => ?_⟩, .inl ⟨guard_of rfl fun _ _ h => h, fun ρ u hC hc hf hd ho => ?_⟩, .inl ⟨guard_of rfl fun _ _ h => h, fun ρ u hC hc hf hd ho => ?_⟩, .inl ⟨by simp, fun ρ u hC hc hf hd ho => ?_⟩, .inl ⟨by simp, fun ρ u hC hc hf hd ho => ?_⟩, .inl ⟨guard_of rfl fun _ _ h => h, fun ρ u hC hc hf hd ho => ?_⟩, .inl ⟨guard_of rfl fun _ _ h => h, fun ρ u hC hc hf hd ho => ?_⟩, .inl ⟨guard_of rfl fun _ _ h => h, fun ρ u hC hc hf hd ho => ?_⟩, .inl ⟨guard_of rfl fun _ _ h => h, fun ρ u hC hc hf hd ho => ?_⟩, .inl ⟨guard_of rfl fun _ _ h => h, fun ρ u hC hc hf hd ho => ?_⟩, .inl ⟨guard_of rfl fun _ _ h => h, fun ρ u hC hc hf hd ho => ?_⟩, .inl ⟨guard_of rfl fun _ _ h => h, fun ρ u hC hc hf hd ho => ?_⟩, .inl ⟨by simp, fun ρ u hC hc hf hd ho => ?_⟩, .inl ⟨by simp, fun ρ u hC hc hf hd ho => ?_⟩, .inl ⟨guard_of rfl fun _ _ h => h, fun ρ u hC hc hf hd ho => ?_⟩, .inl ⟨guard_of rfl fun _ _ h => h, fun ρ u hC hc hf hd ho => ?_⟩, .inl ⟨guard_of rfl fun _ _ h => h, fun ρ u hC hc hf hd ho => ?_⟩, .inl ⟨guard_of rfl fun _ _ h => h, fun ρ u hC hc hf hd ho => ?_⟩, .inl ⟨guard_of rfl fun _ _ h => h, fun ρ u hC hc hf hd ho => ?_⟩, .inl ⟨guard_of rfl fun _ _ h => h, fun ρ u hC hc hf hd ho => ?_⟩, .inl ⟨guard_of rfl fun _ _ h => h, fun ρ u hC hc hf hd ho => ?_⟩, .inl ⟨by simp, fun ρ u hC hc hf hd ho => ?_⟩, .inl ⟨by simp, fun ρ u hC hc hf hd ho => ?_⟩, .inl ⟨guard_of rfl fun _ _ h => h, fun ρ u hC hc hf hd ho => ?_⟩, .inl ⟨guard_of rfl fun _ _ h => h, fun ρ u hC hc hf hd ho => ?_⟩, .inl ⟨guard_of rfl fun _ _ h => h, fun ρ u hC hc hf hd ho => ?_⟩, .inl ⟨guard_of rfl fun _ _ h => h, fun ρ u hC hc hf hd ho => ?_⟩, .inl ⟨guard_of rfl fun _ _ h => h, fun ρ u hC hc hf hd ho => ?_⟩, .inl ⟨by simp, fun ρ u hC hc hf hd ho => ?_⟩, .inl ⟨by simp, fun ρ u hC hc hf hd ho => ?_⟩, .inl ⟨guard_of rfl fun _ _ h => h, fun ρ u hC hc hf hd ho => ?_⟩, .inl ⟨guard_of rfl fun _ _ h => h, fun ρ u hC hc hf hd ho => ?_⟩, .inl ⟨guard_of rfl fun _ _ h => h, fun ρ u hC hc hf hd ho => ?_⟩, .inl ⟨guard_of rfl fun _ _ h => h, fun ρ u hC hc hf hd ho => ?_⟩, .inl ⟨guard_of rfl fun _ _ h => h, fun ρ u hC hc hf hd ho => ?_⟩, .inl ⟨guard_of rfl fun _ _ h => h, fun ρ u hC hc hf hd ho => ?_⟩, .inl ⟨guard_of rfl fun _ _ h => h, fun ρ u hC hc hf hd ho => ?_⟩, .inl ⟨guard_of rfl fun _ _ h => h, fun ρ u hC hc hf hd ho => ?_⟩, .inl ⟨guard_of rfl fun _ _ h => h, fun ρ u hC hc hf hd ho => ?_⟩, .inl ⟨by simp, fun ρ u hC hc hf hd ho => ?_⟩, trivial⟩
    · refine Goes.call 8 #[] (by go_simp) ?_
      refine Calls.mono (fixed5_any u) ?_
      rintro e u' ⟨rfl, lb⟩
      exact ⟨_, rfl, hC.trans (lb.mono hC.size), lb, rfl⟩
    · have e7 : ρ (.tmp 7) = .bool true := hd (0, 7) (by simp)
      refine Goes.pure (.bool true) ?_ ⟨hC, Below.refl _ _, rfl⟩
      unfold Goes
      go_simp
    · have e3 : ρ (.tmp 3) = .pointer (some ⟨ga, 0, none⟩) := ho 3 (by simp)
      obtain ⟨c0, c1, c2⟩ := (xa.later hC).c0
      obtain ⟨c3, c4, c5⟩ := (xa.later hC).c1
      obtain ⟨c6, c7, c8⟩ := (xa.later hC).c2
      refine Goes.pure (.agg #[.bool a1.s, .slice a1.no a1.nn a1.nc, .slice a1.eo a1.en a1.ec, .bool a2.s, .slice a2.no a2.nn a2.nc, .slice a2.eo a2.en a2.ec, .bool a3.s, .slice a3.no a3.nn a3.nc, .slice a3.eo a3.en a3.ec]) ?_ ⟨hC, Below.refl _ _, rfl⟩
      unfold Goes
      go_simp
    · have e4 : ρ (.tmp 4) = .pointer (some ⟨gb, 0, none⟩) := ho 4 (by simp)
      obtain ⟨c0, c1, c2⟩ := (xb.later hC).c0
      obtain ⟨c3, c4, c5⟩ := (xb.later hC).c1
      obtain ⟨c6, c7, c8⟩ := (xb.later hC).c2
      refine Goes.pure (.agg #[.bool b1.s, .slice b1.no b1.nn b1.nc, .slice b1.eo b1.en b1.ec, .bool b2.s, .slice b2.no b2.nn b2.nc, .slice b2.eo b2.en b2.ec, .bool b3.s, .slice b3.no b3.nn b3.nc, .slice b3.eo b3.en b3.ec]) ?_ ⟨hC, Below.refl _ _, rfl⟩
      unfold Goes
      go_simp
    · have e9 : ρ (.tmp 9) = .agg #[.bool a1.s, .slice a1.no a1.nn a1.nc, .slice a1.eo a1.en a1.ec, .bool a2.s, .slice a2.no a2.nn a2.nc, .slice a2.eo a2.en a2.ec, .bool a3.s, .slice a3.no a3.nn a3.nc, .slice a3.eo a3.en a3.ec] := hd (2, 9) (by simp)
      have e10 : ρ (.tmp 10) = .agg #[.bool b1.s, .slice b1.no b1.nn b1.nc, .slice b1.eo b1.en b1.ec, .bool b2.s, .slice b2.no b2.nn b2.nc, .slice b2.eo b2.en b2.ec, .bool b3.s, .slice b3.no b3.nn b3.nc, .slice b3.eo b3.en b3.ec] := hd (3, 10) (by simp)
      have lb : Below u.heap.size u (u.alloc (.cells #[.bool a1.s, .slice a1.no a1.nn a1.nc, .slice a1.eo a1.en a1.ec, .bool a2.s, .slice a2.no a2.nn a2.nc, .slice a2.eo a2.en a2.ec, .bool a3.s, .slice a3.no a3.nn a3.nc, .slice a3.eo a3.en a3.ec, .bool b1.s, .slice b1.no b1.nn b1.nc, .slice b1.eo b1.en b1.ec, .bool b2.s, .slice b2.no b2.nn b2.nc, .slice b2.eo b2.en b2.ec, .bool b3.s, .slice b3.no b3.nn b3.nc, .slice b3.eo b3.en b3.ec] 26)) := (Below.refl _ _).alloc (Nat.le_refl _) _
      refine Goes.run (.slice (some ⟨u.heap.size, 0, none⟩) 2 2) (u.alloc (.cells #[.bool a1.s, .slice a1.no a1.nn a1.nc, .slice a1.eo a1.en a1.ec, .bool a2.s, .slice a2.no a2.nn a2.nc, .slice a2.eo a2.en a2.ec, .bool a3.s, .slice a3.no a3.nn a3.nc, .slice a3.eo a3.en a3.ec, .bool b1.s, .slice b1.no b1.nn b1.nc, .slice b1.eo b1.en b1.ec, .bool b2.s, .slice b2.no b2.nn b2.nc, .slice b2.eo b2.en b2.ec, .bool b3.s, .slice b3.no b3.nn b3.nc, .slice b3.eo b3.en b3.ec] 26)) (by go_simp) ⟨hC.trans (lb.mono hC.size), lb, ?_⟩
      exact VW.made [⟨a1, a2, a3⟩, ⟨b1, b2, b3⟩] [qa1, qb1] [qa2, qb2] [qa3, qb3] ⟨((ha.later hC).mono (K' := K) (by omega)).x, ((hb.later hC).mono (K' := K) (by omega)).x, trivial⟩ ⟨((ha.later hC).mono (K' := K) (by omega)).y, ((hb.later hC).mono (K' := K) (by omega)).y, trivial⟩ ⟨((ha.later hC).mono (K' := K) (by omega)).z, ((hb.later hC).mono (K' := K) (by omega)).z, trivial⟩ _ rfl 2 rfl
    · have k11 : VW [qa1, qb1] [qa2, qb2] [qa3, qb3] (K) (ρ (.tmp 11)) u := hd (4, 11) (by simp)
      refine Goes.call 10 #[ρ (.tmp 11)] (by go_simp) ?_
      refine Calls.mono (vsum_k k11 (by omega) (by simp only [List.length_cons, List.length_nil]; omega)) ?_
      rintro e u' ⟨ra, rb, rc, rfl, cv, lb⟩
      exact ⟨_, rfl, hC.trans (lb.mono hC.size), lb, ⟨ra, rb, rc, rfl, by simp only [qsum2] at cv; exact cv.mono (by simp only [List.length_cons, List.length_nil]; omega)⟩⟩
    · have e3 : ρ (.tmp 3) = .pointer (some ⟨ga, 0, none⟩) := ho 3 (by simp)
      obtain ⟨c0, c1, c2⟩ := (xa.later hC).c0
      obtain ⟨c3, c4, c5⟩ := (xa.later hC).c1
      obtain ⟨c6, c7, c8⟩ := (xa.later hC).c2
      refine Goes.pure (.agg #[.bool a1.s, .slice a1.no a1.nn a1.nc, .slice a1.eo a1.en a1.ec, .bool a2.s, .slice a2.no a2.nn a2.nc, .slice a2.eo a2.en a2.ec, .bool a3.s, .slice a3.no a3.nn a3.nc, .slice a3.eo a3.en a3.ec]) ?_ ⟨hC, Below.refl _ _, rfl⟩
      unfold Goes
      go_simp
    · have e4 : ρ (.tmp 4) = .pointer (some ⟨gb, 0, none⟩) := ho 4 (by simp)
      obtain ⟨c0, c1, c2⟩ := (xb.later hC).c0
      obtain ⟨c3, c4, c5⟩ := (xb.later hC).c1
      obtain ⟨c6, c7, c8⟩ := (xb.later hC).c2
      refine Goes.pure (.agg #[.bool b1.s, .slice b1.no b1.nn b1.nc, .slice b1.eo b1.en b1.ec, .bool b2.s, .slice b2.no b2.nn b2.nc, .slice b2.eo b2.en b2.ec, .bool b3.s, .slice b3.no b3.nn b3.nc, .slice b3.eo b3.en b3.ec]) ?_ ⟨hC, Below.refl _ _, rfl⟩
      unfold Goes
      go_simp
    · have e13 : ρ (.tmp 13) = .agg #[.bool a1.s, .slice a1.no a1.nn a1.nc, .slice a1.eo a1.en a1.ec, .bool a2.s, .slice a2.no a2.nn a2.nc, .slice a2.eo a2.en a2.ec, .bool a3.s, .slice a3.no a3.nn a3.nc, .slice a3.eo a3.en a3.ec] := hd (6, 13) (by simp)
      have e14 : ρ (.tmp 14) = .agg #[.bool b1.s, .slice b1.no b1.nn b1.nc, .slice b1.eo b1.en b1.ec, .bool b2.s, .slice b2.no b2.nn b2.nc, .slice b2.eo b2.en b2.ec, .bool b3.s, .slice b3.no b3.nn b3.nc, .slice b3.eo b3.en b3.ec] := hd (7, 14) (by simp)
      refine Goes.call 11 #[.agg #[.bool a1.s, .slice a1.no a1.nn a1.nc, .slice a1.eo a1.en a1.ec, .bool a2.s, .slice a2.no a2.nn a2.nc, .slice a2.eo a2.en a2.ec, .bool a3.s, .slice a3.no a3.nn a3.nc, .slice a3.eo a3.en a3.ec], .agg #[.bool b1.s, .slice b1.no b1.nn b1.nc, .slice b1.eo b1.en b1.ec, .bool b2.s, .slice b2.no b2.nn b2.nc, .slice b2.eo b2.en b2.ec, .bool b3.s, .slice b3.no b3.nn b3.nc, .slice b3.eo b3.en b3.ec]] (by go_simp) ?_
      refine Calls.mono (vadd5 (ha.later hC) (hb.later hC) (by omega) (by omega) (by omega)) ?_
      rintro e u' ⟨ra, rb, rc, rfl, cv, lb⟩
      exact ⟨_, rfl, hC.trans (lb.mono hC.size), lb, ⟨ra, rb, rc, rfl, cv⟩⟩
    · obtain ⟨ra12, rb12, rc12, e12, k12⟩ : VG (qa1 + qb1) (qa2 + qb2) (qa3 + qb3) (2 * (K + 1) + 1) (ρ (.tmp 12)) u := hd (5, 12) (by simp)
      obtain ⟨ra15, rb15, rc15, e15, k15⟩ : VG (qa1 + qb1) (qa2 + qb2) (qa3 + qb3) (K + (K) + 1) (ρ (.tmp 15)) u := hd (8, 15) (by simp)
      refine Goes.call 9 #[.agg #[.bool ra12.s, .slice ra12.no ra12.nn ra12.nc, .slice ra12.eo ra12.en ra12.ec, .bool rb12.s, .slice rb12.no rb12.nn rb12.nc, .slice rb12.eo rb12.en rb12.ec, .bool rc12.s, .slice rc12.no rc12.nn rc12.nc, .slice rc12.eo rc12.en rc12.ec], .agg #[.bool ra15.s, .slice ra15.no ra15.nn ra15.nc, .slice ra15.eo ra15.en ra15.ec, .bool rb15.s, .slice rb15.no rb15.nn rb15.nc, .slice rb15.eo rb15.en rb15.ec, .bool rc15.s, .slice rc15.no rc15.nn rc15.nc, .slice rc15.eo rc15.en rc15.ec]] (by go_simp) ?_
      refine Calls.mono (vis5 (k12) (k15) (by omega) (by omega)) ?_
      rintro e u' ⟨r, rfl, HR, lb⟩
      exact ⟨_, rfl, hC.trans (lb.mono hC.size), lb, by rw [HR.out.2 ⟨rfl, rfl, rfl⟩]; rfl⟩
    · have e8 : ρ (.tmp 8) = .bool true := hd (1, 8) (by simp)
      have e16 : ρ (.tmp 16) = .bool true := hd (9, 16) (by simp)
      refine Goes.pure (.bool true) ?_ ⟨hC, Below.refl _ _, rfl⟩
      unfold Goes
      go_simp
    · have e17 : ρ (.tmp 17) = .bool true := hd (10, 17) (by simp)
      refine Goes.pure (.bool true) ?_ ⟨hC, Below.refl _ _, rfl⟩
      unfold Goes
      go_simp
    · have e3 : ρ (.tmp 3) = .pointer (some ⟨ga, 0, none⟩) := ho 3 (by simp)
      obtain ⟨c0, c1, c2⟩ := (xa.later hC).c0
      obtain ⟨c3, c4, c5⟩ := (xa.later hC).c1
      obtain ⟨c6, c7, c8⟩ := (xa.later hC).c2
      refine Goes.pure (.agg #[.bool a1.s, .slice a1.no a1.nn a1.nc, .slice a1.eo a1.en a1.ec, .bool a2.s, .slice a2.no a2.nn a2.nc, .slice a2.eo a2.en a2.ec, .bool a3.s, .slice a3.no a3.nn a3.nc, .slice a3.eo a3.en a3.ec]) ?_ ⟨hC, Below.refl _ _, rfl⟩
      unfold Goes
      go_simp
    · have e4 : ρ (.tmp 4) = .pointer (some ⟨gb, 0, none⟩) := ho 4 (by simp)
      obtain ⟨c0, c1, c2⟩ := (xb.later hC).c0
      obtain ⟨c3, c4, c5⟩ := (xb.later hC).c1
      obtain ⟨c6, c7, c8⟩ := (xb.later hC).c2
      refine Goes.pure (.agg #[.bool b1.s, .slice b1.no b1.nn b1.nc, .slice b1.eo b1.en b1.ec, .bool b2.s, .slice b2.no b2.nn b2.nc, .slice b2.eo b2.en b2.ec, .bool b3.s, .slice b3.no b3.nn b3.nc, .slice b3.eo b3.en b3.ec]) ?_ ⟨hC, Below.refl _ _, rfl⟩
      unfold Goes
      go_simp
    · have e19 : ρ (.tmp 19) = .agg #[.bool a1.s, .slice a1.no a1.nn a1.nc, .slice a1.eo a1.en a1.ec, .bool a2.s, .slice a2.no a2.nn a2.nc, .slice a2.eo a2.en a2.ec, .bool a3.s, .slice a3.no a3.nn a3.nc, .slice a3.eo a3.en a3.ec] := hd (12, 19) (by simp)
      have e20 : ρ (.tmp 20) = .agg #[.bool b1.s, .slice b1.no b1.nn b1.nc, .slice b1.eo b1.en b1.ec, .bool b2.s, .slice b2.no b2.nn b2.nc, .slice b2.eo b2.en b2.ec, .bool b3.s, .slice b3.no b3.nn b3.nc, .slice b3.eo b3.en b3.ec] := hd (13, 20) (by simp)
      refine Goes.call 12 #[.agg #[.bool a1.s, .slice a1.no a1.nn a1.nc, .slice a1.eo a1.en a1.ec, .bool a2.s, .slice a2.no a2.nn a2.nc, .slice a2.eo a2.en a2.ec, .bool a3.s, .slice a3.no a3.nn a3.nc, .slice a3.eo a3.en a3.ec], .agg #[.bool b1.s, .slice b1.no b1.nn b1.nc, .slice b1.eo b1.en b1.ec, .bool b2.s, .slice b2.no b2.nn b2.nc, .slice b2.eo b2.en b2.ec, .bool b3.s, .slice b3.no b3.nn b3.nc, .slice b3.eo b3.en b3.ec]] (by go_simp) ?_
      refine Calls.mono (vsub_k (ha.later hC) (hb.later hC) (by omega) (by omega) (by omega)) ?_
      rintro e u' ⟨ra, rb, rc, rfl, cv, lb⟩
      exact ⟨_, rfl, hC.trans (lb.mono hC.size), lb, ⟨ra, rb, rc, rfl, cv⟩⟩
    · have e3 : ρ (.tmp 3) = .pointer (some ⟨ga, 0, none⟩) := ho 3 (by simp)
      obtain ⟨c0, c1, c2⟩ := (xa.later hC).c0
      obtain ⟨c3, c4, c5⟩ := (xa.later hC).c1
      obtain ⟨c6, c7, c8⟩ := (xa.later hC).c2
      refine Goes.pure (.agg #[.bool a1.s, .slice a1.no a1.nn a1.nc, .slice a1.eo a1.en a1.ec, .bool a2.s, .slice a2.no a2.nn a2.nc, .slice a2.eo a2.en a2.ec, .bool a3.s, .slice a3.no a3.nn a3.nc, .slice a3.eo a3.en a3.ec]) ?_ ⟨hC, Below.refl _ _, rfl⟩
      unfold Goes
      go_simp
    · have e4 : ρ (.tmp 4) = .pointer (some ⟨gb, 0, none⟩) := ho 4 (by simp)
      obtain ⟨c0, c1, c2⟩ := (xb.later hC).c0
      obtain ⟨c3, c4, c5⟩ := (xb.later hC).c1
      obtain ⟨c6, c7, c8⟩ := (xb.later hC).c2
      refine Goes.pure (.agg #[.bool b1.s, .slice b1.no b1.nn b1.nc, .slice b1.eo b1.en b1.ec, .bool b2.s, .slice b2.no b2.nn b2.nc, .slice b2.eo b2.en b2.ec, .bool b3.s, .slice b3.no b3.nn b3.nc, .slice b3.eo b3.en b3.ec]) ?_ ⟨hC, Below.refl _ _, rfl⟩
      unfold Goes
      go_simp
    · have e22 : ρ (.tmp 22) = .agg #[.bool a1.s, .slice a1.no a1.nn a1.nc, .slice a1.eo a1.en a1.ec, .bool a2.s, .slice a2.no a2.nn a2.nc, .slice a2.eo a2.en a2.ec, .bool a3.s, .slice a3.no a3.nn a3.nc, .slice a3.eo a3.en a3.ec] := hd (15, 22) (by simp)
      have e23 : ρ (.tmp 23) = .agg #[.bool b1.s, .slice b1.no b1.nn b1.nc, .slice b1.eo b1.en b1.ec, .bool b2.s, .slice b2.no b2.nn b2.nc, .slice b2.eo b2.en b2.ec, .bool b3.s, .slice b3.no b3.nn b3.nc, .slice b3.eo b3.en b3.ec] := hd (16, 23) (by simp)
      refine Goes.call 13 #[.agg #[.bool a1.s, .slice a1.no a1.nn a1.nc, .slice a1.eo a1.en a1.ec, .bool a2.s, .slice a2.no a2.nn a2.nc, .slice a2.eo a2.en a2.ec, .bool a3.s, .slice a3.no a3.nn a3.nc, .slice a3.eo a3.en a3.ec], .agg #[.bool b1.s, .slice b1.no b1.nn b1.nc, .slice b1.eo b1.en b1.ec, .bool b2.s, .slice b2.no b2.nn b2.nc, .slice b2.eo b2.en b2.ec, .bool b3.s, .slice b3.no b3.nn b3.nc, .slice b3.eo b3.en b3.ec]] (by go_simp) ?_
      refine Calls.mono (vsub5 (ha.later hC) (hb.later hC) (by omega) (by omega) (by omega)) ?_
      rintro e u' ⟨ra, rb, rc, rfl, cv, lb⟩
      exact ⟨_, rfl, hC.trans (lb.mono hC.size), lb, ⟨ra, rb, rc, rfl, cv⟩⟩
    · obtain ⟨ra21, rb21, rc21, e21, k21⟩ : VG (qa1 - qb1) (qa2 - qb2) (qa3 - qb3) (K + (K) + 1) (ρ (.tmp 21)) u := hd (14, 21) (by simp)
      obtain ⟨ra24, rb24, rc24, e24, k24⟩ : VG (qa1 - qb1) (qa2 - qb2) (qa3 - qb3) (K + (K) + 1) (ρ (.tmp 24)) u := hd (17, 24) (by simp)
      refine Goes.call 9 #[.agg #[.bool ra21.s, .slice ra21.no ra21.nn ra21.nc, .slice ra21.eo ra21.en ra21.ec, .bool rb21.s, .slice rb21.no rb21.nn rb21.nc, .slice rb21.eo rb21.en rb21.ec, .bool rc21.s, .slice rc21.no rc21.nn rc21.nc, .slice rc21.eo rc21.en rc21.ec], .agg #[.bool ra24.s, .slice ra24.no ra24.nn ra24.nc, .slice ra24.eo ra24.en ra24.ec, .bool rb24.s, .slice rb24.no rb24.nn rb24.nc, .slice rb24.eo rb24.en rb24.ec, .bool rc24.s, .slice rc24.no rc24.nn rc24.nc, .slice rc24.eo rc24.en rc24.ec]] (by go_simp) ?_
      refine Calls.mono (vis5 (k21) (k24) (by omega) (by omega)) ?_
      rintro e u' ⟨r, rfl, HR, lb⟩
      exact ⟨_, rfl, hC.trans (lb.mono hC.size), lb, by rw [HR.out.2 ⟨rfl, rfl, rfl⟩]; rfl⟩
    · have e18 : ρ (.tmp 18) = .bool true := hd (11, 18) (by simp)
      have e25 : ρ (.tmp 25) = .bool true := hd (18, 25) (by simp)
      refine Goes.pure (.bool true) ?_ ⟨hC, Below.refl _ _, rfl⟩
      unfold Goes
      go_simp
    · have e26 : ρ (.tmp 26) = .bool true := hd (19, 26) (by simp)
      refine Goes.pure (.bool true) ?_ ⟨hC, Below.refl _ _, rfl⟩
      unfold Goes
      go_simp
    · have e5 : ρ (.tmp 5) = .pointer (some ⟨gk, 0, none⟩) := ho 5 (by simp)
      obtain ⟨c0, c1, c2⟩ := (xk.later hC).cells
      refine Goes.pure (.agg #[.bool k.s, .slice k.no k.nn k.nc, .slice k.eo k.en k.ec]) ?_ ⟨hC, Below.refl _ _, rfl⟩
      unfold Goes
      go_simp
    · have e3 : ρ (.tmp 3) = .pointer (some ⟨ga, 0, none⟩) := ho 3 (by simp)
      obtain ⟨c0, c1, c2⟩ := (xa.later hC).c0
      obtain ⟨c3, c4, c5⟩ := (xa.later hC).c1
      obtain ⟨c6, c7, c8⟩ := (xa.later hC).c2
      refine Goes.pure (.agg #[.bool a1.s, .slice a1.no a1.nn a1.nc, .slice a1.eo a1.en a1.ec, .bool a2.s, .slice a2.no a2.nn a2.nc, .slice a2.eo a2.en a2.ec, .bool a3.s, .slice a3.no a3.nn a3.nc, .slice a3.eo a3.en a3.ec]) ?_ ⟨hC, Below.refl _ _, rfl⟩
      unfold Goes
      go_simp
    · have e28 : ρ (.tmp 28) = .agg #[.bool k.s, .slice k.no k.nn k.nc, .slice k.eo k.en k.ec] := hd (21, 28) (by simp)
      have e29 : ρ (.tmp 29) = .agg #[.bool a1.s, .slice a1.no a1.nn a1.nc, .slice a1.eo a1.en a1.ec, .bool a2.s, .slice a2.no a2.nn a2.nc, .slice a2.eo a2.en a2.ec, .bool a3.s, .slice a3.no a3.nn a3.nc, .slice a3.eo a3.en a3.ec] := hd (22, 29) (by simp)
      refine Goes.call 14 #[.agg #[.bool k.s, .slice k.no k.nn k.nc, .slice k.eo k.en k.ec], .agg #[.bool a1.s, .slice a1.no a1.nn a1.nc, .slice a1.eo a1.en a1.ec, .bool a2.s, .slice a2.no a2.nn a2.nc, .slice a2.eo a2.en a2.ec, .bool a3.s, .slice a3.no a3.nn a3.nc, .slice a3.eo a3.en a3.ec]] (by go_simp) ?_
      refine Calls.mono (vscale_k (k := ⟨k.s, k.no, k.nn, k.nc, k.eo, k.en, k.ec⟩) ((hk.later hC)) (ha.later hC) (by omega) (by omega) (by omega)) ?_
      rintro e u' ⟨ra, rb, rc, rfl, cv, lb⟩
      exact ⟨_, rfl, hC.trans (lb.mono hC.size), lb, ⟨ra, rb, rc, rfl, cv⟩⟩
    · have e5 : ρ (.tmp 5) = .pointer (some ⟨gk, 0, none⟩) := ho 5 (by simp)
      obtain ⟨c0, c1, c2⟩ := (xk.later hC).cells
      refine Goes.pure (.agg #[.bool k.s, .slice k.no k.nn k.nc, .slice k.eo k.en k.ec]) ?_ ⟨hC, Below.refl _ _, rfl⟩
      unfold Goes
      go_simp
    · have e3 : ρ (.tmp 3) = .pointer (some ⟨ga, 0, none⟩) := ho 3 (by simp)
      obtain ⟨c0, c1, c2⟩ := (xa.later hC).c0
      obtain ⟨c3, c4, c5⟩ := (xa.later hC).c1
      obtain ⟨c6, c7, c8⟩ := (xa.later hC).c2
      refine Goes.pure (.agg #[.bool a1.s, .slice a1.no a1.nn a1.nc, .slice a1.eo a1.en a1.ec, .bool a2.s, .slice a2.no a2.nn a2.nc, .slice a2.eo a2.en a2.ec, .bool a3.s, .slice a3.no a3.nn a3.nc, .slice a3.eo a3.en a3.ec]) ?_ ⟨hC, Below.refl _ _, rfl⟩
      unfold Goes
      go_simp
    · have e31 : ρ (.tmp 31) = .agg #[.bool k.s, .slice k.no k.nn k.nc, .slice k.eo k.en k.ec] := hd (24, 31) (by simp)
      have e32 : ρ (.tmp 32) = .agg #[.bool a1.s, .slice a1.no a1.nn a1.nc, .slice a1.eo a1.en a1.ec, .bool a2.s, .slice a2.no a2.nn a2.nc, .slice a2.eo a2.en a2.ec, .bool a3.s, .slice a3.no a3.nn a3.nc, .slice a3.eo a3.en a3.ec] := hd (25, 32) (by simp)
      refine Goes.call 15 #[.agg #[.bool k.s, .slice k.no k.nn k.nc, .slice k.eo k.en k.ec], .agg #[.bool a1.s, .slice a1.no a1.nn a1.nc, .slice a1.eo a1.en a1.ec, .bool a2.s, .slice a2.no a2.nn a2.nc, .slice a2.eo a2.en a2.ec, .bool a3.s, .slice a3.no a3.nn a3.nc, .slice a3.eo a3.en a3.ec]] (by go_simp) ?_
      refine Calls.mono (vscale5 (k := ⟨k.s, k.no, k.nn, k.nc, k.eo, k.en, k.ec⟩) ((hk.later hC)) (ha.later hC) (by omega) (by omega)) ?_
      rintro e u' ⟨ra, rb, rc, rfl, cv, lb⟩
      exact ⟨_, rfl, hC.trans (lb.mono hC.size), lb, ⟨ra, rb, rc, rfl, cv⟩⟩
    · obtain ⟨ra30, rb30, rc30, e30, k30⟩ : VG (qk * qa1) (qk * qa2) (qk * qa3) (K + (K)) (ρ (.tmp 30)) u := hd (23, 30) (by simp)
      obtain ⟨ra33, rb33, rc33, e33, k33⟩ : VG (qk * qa1) (qk * qa2) (qk * qa3) (K + (K)) (ρ (.tmp 33)) u := hd (26, 33) (by simp)
      refine Goes.call 9 #[.agg #[.bool ra30.s, .slice ra30.no ra30.nn ra30.nc, .slice ra30.eo ra30.en ra30.ec, .bool rb30.s, .slice rb30.no rb30.nn rb30.nc, .slice rb30.eo rb30.en rb30.ec, .bool rc30.s, .slice rc30.no rc30.nn rc30.nc, .slice rc30.eo rc30.en rc30.ec], .agg #[.bool ra33.s, .slice ra33.no ra33.nn ra33.nc, .slice ra33.eo ra33.en ra33.ec, .bool rb33.s, .slice rb33.no rb33.nn rb33.nc, .slice rb33.eo rb33.en rb33.ec, .bool rc33.s, .slice rc33.no rc33.nn rc33.nc, .slice rc33.eo rc33.en rc33.ec]] (by go_simp) ?_
      refine Calls.mono (vis5 (k30) (k33) (by omega) (by omega)) ?_
      rintro e u' ⟨r, rfl, HR, lb⟩
      exact ⟨_, rfl, hC.trans (lb.mono hC.size), lb, by rw [HR.out.2 ⟨rfl, rfl, rfl⟩]; rfl⟩
    · have e27 : ρ (.tmp 27) = .bool true := hd (20, 27) (by simp)
      have e34 : ρ (.tmp 34) = .bool true := hd (27, 34) (by simp)
      refine Goes.pure (.bool true) ?_ ⟨hC, Below.refl _ _, rfl⟩
      unfold Goes
      go_simp
    · have e35 : ρ (.tmp 35) = .bool true := hd (28, 35) (by simp)
      refine Goes.pure (.bool true) ?_ ⟨hC, Below.refl _ _, rfl⟩
      unfold Goes
      go_simp
    · have e3 : ρ (.tmp 3) = .pointer (some ⟨ga, 0, none⟩) := ho 3 (by simp)
      obtain ⟨c0, c1, c2⟩ := (xa.later hC).c0
      obtain ⟨c3, c4, c5⟩ := (xa.later hC).c1
      obtain ⟨c6, c7, c8⟩ := (xa.later hC).c2
      refine Goes.pure (.agg #[.bool a1.s, .slice a1.no a1.nn a1.nc, .slice a1.eo a1.en a1.ec, .bool a2.s, .slice a2.no a2.nn a2.nc, .slice a2.eo a2.en a2.ec, .bool a3.s, .slice a3.no a3.nn a3.nc, .slice a3.eo a3.en a3.ec]) ?_ ⟨hC, Below.refl _ _, rfl⟩
      unfold Goes
      go_simp
    · have e4 : ρ (.tmp 4) = .pointer (some ⟨gb, 0, none⟩) := ho 4 (by simp)
      obtain ⟨c0, c1, c2⟩ := (xb.later hC).c0
      obtain ⟨c3, c4, c5⟩ := (xb.later hC).c1
      obtain ⟨c6, c7, c8⟩ := (xb.later hC).c2
      refine Goes.pure (.agg #[.bool b1.s, .slice b1.no b1.nn b1.nc, .slice b1.eo b1.en b1.ec, .bool b2.s, .slice b2.no b2.nn b2.nc, .slice b2.eo b2.en b2.ec, .bool b3.s, .slice b3.no b3.nn b3.nc, .slice b3.eo b3.en b3.ec]) ?_ ⟨hC, Below.refl _ _, rfl⟩
      unfold Goes
      go_simp
    · have e37 : ρ (.tmp 37) = .agg #[.bool a1.s, .slice a1.no a1.nn a1.nc, .slice a1.eo a1.en a1.ec, .bool a2.s, .slice a2.no a2.nn a2.nc, .slice a2.eo a2.en a2.ec, .bool a3.s, .slice a3.no a3.nn a3.nc, .slice a3.eo a3.en a3.ec] := hd (30, 37) (by simp)
      have e38 : ρ (.tmp 38) = .agg #[.bool b1.s, .slice b1.no b1.nn b1.nc, .slice b1.eo b1.en b1.ec, .bool b2.s, .slice b2.no b2.nn b2.nc, .slice b2.eo b2.en b2.ec, .bool b3.s, .slice b3.no b3.nn b3.nc, .slice b3.eo b3.en b3.ec] := hd (31, 38) (by simp)
      refine Goes.call 17 #[.agg #[.bool a1.s, .slice a1.no a1.nn a1.nc, .slice a1.eo a1.en a1.ec, .bool a2.s, .slice a2.no a2.nn a2.nc, .slice a2.eo a2.en a2.ec, .bool a3.s, .slice a3.no a3.nn a3.nc, .slice a3.eo a3.en a3.ec], .agg #[.bool b1.s, .slice b1.no b1.nn b1.nc, .slice b1.eo b1.en b1.ec, .bool b2.s, .slice b2.no b2.nn b2.nc, .slice b2.eo b2.en b2.ec, .bool b3.s, .slice b3.no b3.nn b3.nc, .slice b3.eo b3.en b3.ec]] (by go_simp) ?_
      refine Calls.mono (vdot_k (ha.later hC) (hb.later hC) (by omega) (by omega) (by omega)) ?_
      rintro e u' ⟨s1, no1, nn1, nc1, eo1, en1, ec1, rfl, cq, lb⟩
      exact ⟨_, rfl, hC.trans (lb.mono hC.size), lb, ⟨s1, no1, nn1, nc1, eo1, en1, ec1, rfl, cq⟩⟩
    · have e3 : ρ (.tmp 3) = .pointer (some ⟨ga, 0, none⟩) := ho 3 (by simp)
      obtain ⟨c0, c1, c2⟩ := (xa.later hC).c0
      obtain ⟨c3, c4, c5⟩ := (xa.later hC).c1
      obtain ⟨c6, c7, c8⟩ := (xa.later hC).c2
      refine Goes.pure (.agg #[.bool a1.s, .slice a1.no a1.nn a1.nc, .slice a1.eo a1.en a1.ec, .bool a2.s, .slice a2.no a2.nn a2.nc, .slice a2.eo a2.en a2.ec, .bool a3.s, .slice a3.no a3.nn a3.nc, .slice a3.eo a3.en a3.ec]) ?_ ⟨hC, Below.refl _ _, rfl⟩
      unfold Goes
      go_simp
    · have e4 : ρ (.tmp 4) = .pointer (some ⟨gb, 0, none⟩) := ho 4 (by simp)
      obtain ⟨c0, c1, c2⟩ := (xb.later hC).c0
      obtain ⟨c3, c4, c5⟩ := (xb.later hC).c1
      obtain ⟨c6, c7, c8⟩ := (xb.later hC).c2
      refine Goes.pure (.agg #[.bool b1.s, .slice b1.no b1.nn b1.nc, .slice b1.eo b1.en b1.ec, .bool b2.s, .slice b2.no b2.nn b2.nc, .slice b2.eo b2.en b2.ec, .bool b3.s, .slice b3.no b3.nn b3.nc, .slice b3.eo b3.en b3.ec]) ?_ ⟨hC, Below.refl _ _, rfl⟩
      unfold Goes
      go_simp
    · have e40 : ρ (.tmp 40) = .agg #[.bool a1.s, .slice a1.no a1.nn a1.nc, .slice a1.eo a1.en a1.ec, .bool a2.s, .slice a2.no a2.nn a2.nc, .slice a2.eo a2.en a2.ec, .bool a3.s, .slice a3.no a3.nn a3.nc, .slice a3.eo a3.en a3.ec] := hd (33, 40) (by simp)
      have e41 : ρ (.tmp 41) = .agg #[.bool b1.s, .slice b1.no b1.nn b1.nc, .slice b1.eo b1.en b1.ec, .bool b2.s, .slice b2.no b2.nn b2.nc, .slice b2.eo b2.en b2.ec, .bool b3.s, .slice b3.no b3.nn b3.nc, .slice b3.eo b3.en b3.ec] := hd (34, 41) (by simp)
      refine Goes.call 18 #[.agg #[.bool a1.s, .slice a1.no a1.nn a1.nc, .slice a1.eo a1.en a1.ec, .bool a2.s, .slice a2.no a2.nn a2.nc, .slice a2.eo a2.en a2.ec, .bool a3.s, .slice a3.no a3.nn a3.nc, .slice a3.eo a3.en a3.ec], .agg #[.bool b1.s, .slice b1.no b1.nn b1.nc, .slice b1.eo b1.en b1.ec, .bool b2.s, .slice b2.no b2.nn b2.nc, .slice b2.eo b2.en b2.ec, .bool b3.s, .slice b3.no b3.nn b3.nc, .slice b3.eo b3.en b3.ec]] (by go_simp) ?_
      refine Calls.mono (vdot5 (ha.later hC) (hb.later hC) (by omega) (by omega) (by omega)) ?_
      rintro e u' ⟨s1, no1, nn1, nc1, eo1, en1, ec1, rfl, cq, lb⟩
      exact ⟨_, rfl, hC.trans (lb.mono hC.size), lb, ⟨s1, no1, nn1, nc1, eo1, en1, ec1, rfl, cq.mono (by omega)⟩⟩
    · obtain ⟨s39, no39, nn39, nc39, eo39, en39, ec39, e39, k39⟩ : VC (qa1 * qb1 + qa2 * qb2 + qa3 * qb3) (3 * (K + (K)) + 2) (ρ (.tmp 39)) u := hd (32, 39) (by simp)
      obtain ⟨s42, no42, nn42, nc42, eo42, en42, ec42, e42, k42⟩ : VC (qa1 * qb1 + qa2 * qb2 + qa3 * qb3) (3 * (K + (K)) + 2) (ρ (.tmp 42)) u := hd (35, 42) (by simp)
      refine Goes.call 16 #[.agg #[.bool s39, .slice no39 nn39 nc39, .slice eo39 en39 ec39], .agg #[.bool s42, .slice no42 nn42 nc42, .slice eo42 en42 ec42]] (by go_simp) ?_
      refine Calls.mono (is3_any u s39 no39 nn39 nc39 eo39 en39 ec39 s42 no42 nn42 nc42 eo42 en42 ec42 _ _ _ _ k39.num k39.den k42.num k42.den (by have := k39.ln; omega) (by have := k39.ld; omega) (by have := k42.ln; omega) (by have := k42.ld; omega)) ?_
      rintro e u' ⟨r, rfl, HR, lb⟩
      exact ⟨_, rfl, hC.trans (lb.mono hC.size), lb, by rw [HR.out.2 (cq_same k39 k42 (rfl))]; rfl⟩
    · have e36 : ρ (.tmp 36) = .bool true := hd (29, 36) (by simp)
      have e43 : ρ (.tmp 43) = .bool true := hd (36, 43) (by simp)
      refine Goes.pure (.bool true) ?_ ⟨hC, Below.refl _ _, rfl⟩
      unfold Goes
      go_simp
    · have e44 : ρ (.tmp 44) = .bool true := hd (37, 44) (by simp)
      refine Goes.pure (.bool true) ?_ ⟨hC, Below.refl _ _, rfl⟩
      unfold Goes
      go_simp
    · have e3 : ρ (.tmp 3) = .pointer (some ⟨ga, 0, none⟩) := ho 3 (by simp)
      obtain ⟨c0, c1, c2⟩ := (xa.later hC).c0
      obtain ⟨c3, c4, c5⟩ := (xa.later hC).c1
      obtain ⟨c6, c7, c8⟩ := (xa.later hC).c2
      refine Goes.pure (.agg #[.bool a1.s, .slice a1.no a1.nn a1.nc, .slice a1.eo a1.en a1.ec, .bool a2.s, .slice a2.no a2.nn a2.nc, .slice a2.eo a2.en a2.ec, .bool a3.s, .slice a3.no a3.nn a3.nc, .slice a3.eo a3.en a3.ec]) ?_ ⟨hC, Below.refl _ _, rfl⟩
      unfold Goes
      go_simp
    · have e4 : ρ (.tmp 4) = .pointer (some ⟨gb, 0, none⟩) := ho 4 (by simp)
      obtain ⟨c0, c1, c2⟩ := (xb.later hC).c0
      obtain ⟨c3, c4, c5⟩ := (xb.later hC).c1
      obtain ⟨c6, c7, c8⟩ := (xb.later hC).c2
      refine Goes.pure (.agg #[.bool b1.s, .slice b1.no b1.nn b1.nc, .slice b1.eo b1.en b1.ec, .bool b2.s, .slice b2.no b2.nn b2.nc, .slice b2.eo b2.en b2.ec, .bool b3.s, .slice b3.no b3.nn b3.nc, .slice b3.eo b3.en b3.ec]) ?_ ⟨hC, Below.refl _ _, rfl⟩
      unfold Goes
      go_simp
    · have e46 : ρ (.tmp 46) = .agg #[.bool a1.s, .slice a1.no a1.nn a1.nc, .slice a1.eo a1.en a1.ec, .bool a2.s, .slice a2.no a2.nn a2.nc, .slice a2.eo a2.en a2.ec, .bool a3.s, .slice a3.no a3.nn a3.nc, .slice a3.eo a3.en a3.ec] := hd (39, 46) (by simp)
      have e47 : ρ (.tmp 47) = .agg #[.bool b1.s, .slice b1.no b1.nn b1.nc, .slice b1.eo b1.en b1.ec, .bool b2.s, .slice b2.no b2.nn b2.nc, .slice b2.eo b2.en b2.ec, .bool b3.s, .slice b3.no b3.nn b3.nc, .slice b3.eo b3.en b3.ec] := hd (40, 47) (by simp)
      refine Goes.call 19 #[.agg #[.bool a1.s, .slice a1.no a1.nn a1.nc, .slice a1.eo a1.en a1.ec, .bool a2.s, .slice a2.no a2.nn a2.nc, .slice a2.eo a2.en a2.ec, .bool a3.s, .slice a3.no a3.nn a3.nc, .slice a3.eo a3.en a3.ec], .agg #[.bool b1.s, .slice b1.no b1.nn b1.nc, .slice b1.eo b1.en b1.ec, .bool b2.s, .slice b2.no b2.nn b2.nc, .slice b2.eo b2.en b2.ec, .bool b3.s, .slice b3.no b3.nn b3.nc, .slice b3.eo b3.en b3.ec]] (by go_simp) ?_
      refine Calls.mono (vcross_k (ha.later hC) (hb.later hC) (by omega) (by omega) (by omega)) ?_
      rintro e u' ⟨ra, rb, rc, rfl, cv, lb⟩
      exact ⟨_, rfl, hC.trans (lb.mono hC.size), lb, ⟨ra, rb, rc, rfl, cv⟩⟩
    · have e3 : ρ (.tmp 3) = .pointer (some ⟨ga, 0, none⟩) := ho 3 (by simp)
      obtain ⟨c0, c1, c2⟩ := (xa.later hC).c0
      obtain ⟨c3, c4, c5⟩ := (xa.later hC).c1
      obtain ⟨c6, c7, c8⟩ := (xa.later hC).c2
      refine Goes.pure (.agg #[.bool a1.s, .slice a1.no a1.nn a1.nc, .slice a1.eo a1.en a1.ec, .bool a2.s, .slice a2.no a2.nn a2.nc, .slice a2.eo a2.en a2.ec, .bool a3.s, .slice a3.no a3.nn a3.nc, .slice a3.eo a3.en a3.ec]) ?_ ⟨hC, Below.refl _ _, rfl⟩
      unfold Goes
      go_simp
    · have e4 : ρ (.tmp 4) = .pointer (some ⟨gb, 0, none⟩) := ho 4 (by simp)
      obtain ⟨c0, c1, c2⟩ := (xb.later hC).c0
      obtain ⟨c3, c4, c5⟩ := (xb.later hC).c1
      obtain ⟨c6, c7, c8⟩ := (xb.later hC).c2
      refine Goes.pure (.agg #[.bool b1.s, .slice b1.no b1.nn b1.nc, .slice b1.eo b1.en b1.ec, .bool b2.s, .slice b2.no b2.nn b2.nc, .slice b2.eo b2.en b2.ec, .bool b3.s, .slice b3.no b3.nn b3.nc, .slice b3.eo b3.en b3.ec]) ?_ ⟨hC, Below.refl _ _, rfl⟩
      unfold Goes
      go_simp
    · have e49 : ρ (.tmp 49) = .agg #[.bool a1.s, .slice a1.no a1.nn a1.nc, .slice a1.eo a1.en a1.ec, .bool a2.s, .slice a2.no a2.nn a2.nc, .slice a2.eo a2.en a2.ec, .bool a3.s, .slice a3.no a3.nn a3.nc, .slice a3.eo a3.en a3.ec] := hd (42, 49) (by simp)
      have e50 : ρ (.tmp 50) = .agg #[.bool b1.s, .slice b1.no b1.nn b1.nc, .slice b1.eo b1.en b1.ec, .bool b2.s, .slice b2.no b2.nn b2.nc, .slice b2.eo b2.en b2.ec, .bool b3.s, .slice b3.no b3.nn b3.nc, .slice b3.eo b3.en b3.ec] := hd (43, 50) (by simp)
      refine Goes.call 20 #[.agg #[.bool a1.s, .slice a1.no a1.nn a1.nc, .slice a1.eo a1.en a1.ec, .bool a2.s, .slice a2.no a2.nn a2.nc, .slice a2.eo a2.en a2.ec, .bool a3.s, .slice a3.no a3.nn a3.nc, .slice a3.eo a3.en a3.ec], .agg #[.bool b1.s, .slice b1.no b1.nn b1.nc, .slice b1.eo b1.en b1.ec, .bool b2.s, .slice b2.no b2.nn b2.nc, .slice b2.eo b2.en b2.ec, .bool b3.s, .slice b3.no b3.nn b3.nc, .slice b3.eo b3.en b3.ec]] (by go_simp) ?_
      refine Calls.mono (vcross5 (ha.later hC) (hb.later hC) (by omega) (by omega) (by omega)) ?_
      rintro e u' ⟨ra, rb, rc, rfl, cv, lb⟩
      exact ⟨_, rfl, hC.trans (lb.mono hC.size), lb, ⟨ra, rb, rc, rfl, cv⟩⟩
    · obtain ⟨ra48, rb48, rc48, e48, k48⟩ : VG (qa2 * qb3 - qa3 * qb2) (qa3 * qb1 - qa1 * qb3) (qa1 * qb2 - qa2 * qb1) (K + (K) + (K + (K)) + 1) (ρ (.tmp 48)) u := hd (41, 48) (by simp)
      obtain ⟨ra51, rb51, rc51, e51, k51⟩ : VG (qa2 * qb3 - qa3 * qb2) (qa3 * qb1 - qa1 * qb3) (qa1 * qb2 - qa2 * qb1) (K + (K) + (K + (K)) + 1) (ρ (.tmp 51)) u := hd (44, 51) (by simp)
      refine Goes.call 9 #[.agg #[.bool ra48.s, .slice ra48.no ra48.nn ra48.nc, .slice ra48.eo ra48.en ra48.ec, .bool rb48.s, .slice rb48.no rb48.nn rb48.nc, .slice rb48.eo rb48.en rb48.ec, .bool rc48.s, .slice rc48.no rc48.nn rc48.nc, .slice rc48.eo rc48.en rc48.ec], .agg #[.bool ra51.s, .slice ra51.no ra51.nn ra51.nc, .slice ra51.eo ra51.en ra51.ec, .bool rb51.s, .slice rb51.no rb51.nn rb51.nc, .slice rb51.eo rb51.en rb51.ec, .bool rc51.s, .slice rc51.no rc51.nn rc51.nc, .slice rc51.eo rc51.en rc51.ec]] (by go_simp) ?_
      refine Calls.mono (vis5 (k48) (k51) (by omega) (by omega)) ?_
      rintro e u' ⟨r, rfl, HR, lb⟩
      exact ⟨_, rfl, hC.trans (lb.mono hC.size), lb, by rw [HR.out.2 ⟨rfl, rfl, rfl⟩]; rfl⟩
    · have e45 : ρ (.tmp 45) = .bool true := hd (38, 45) (by simp)
      have e52 : ρ (.tmp 52) = .bool true := hd (45, 52) (by simp)
      refine Goes.pure (.bool true) ?_ ⟨hC, Below.refl _ _, rfl⟩
      unfold Goes
      go_simp
    · have e53 : ρ (.tmp 53) = .bool true := hd (46, 53) (by simp)
      refine Goes.pure (.bool true) ?_ ⟨hC, Below.refl _ _, rfl⟩
      unfold Goes
      go_simp
    · have e3 : ρ (.tmp 3) = .pointer (some ⟨ga, 0, none⟩) := ho 3 (by simp)
      obtain ⟨c0, c1, c2⟩ := (xa.later hC).c0
      obtain ⟨c3, c4, c5⟩ := (xa.later hC).c1
      obtain ⟨c6, c7, c8⟩ := (xa.later hC).c2
      refine Goes.pure (.agg #[.bool a1.s, .slice a1.no a1.nn a1.nc, .slice a1.eo a1.en a1.ec, .bool a2.s, .slice a2.no a2.nn a2.nc, .slice a2.eo a2.en a2.ec, .bool a3.s, .slice a3.no a3.nn a3.nc, .slice a3.eo a3.en a3.ec]) ?_ ⟨hC, Below.refl _ _, rfl⟩
      unfold Goes
      go_simp
    · have e55 : ρ (.tmp 55) = .agg #[.bool a1.s, .slice a1.no a1.nn a1.nc, .slice a1.eo a1.en a1.ec, .bool a2.s, .slice a2.no a2.nn a2.nc, .slice a2.eo a2.en a2.ec, .bool a3.s, .slice a3.no a3.nn a3.nc, .slice a3.eo a3.en a3.ec] := hd (48, 55) (by simp)
      refine Goes.call 21 #[.agg #[.bool a1.s, .slice a1.no a1.nn a1.nc, .slice a1.eo a1.en a1.ec, .bool a2.s, .slice a2.no a2.nn a2.nc, .slice a2.eo a2.en a2.ec, .bool a3.s, .slice a3.no a3.nn a3.nc, .slice a3.eo a3.en a3.ec]] (by go_simp) ?_
      refine Calls.mono (vread_k (ha.later hC) (by omega) (by omega)) ?_
      rintro e u' ⟨ra, rb, rc, rfl, cv, lb⟩
      exact ⟨_, rfl, hC.trans (lb.mono hC.size), lb, ⟨ra, rb, rc, rfl, cv⟩⟩
    · have e3 : ρ (.tmp 3) = .pointer (some ⟨ga, 0, none⟩) := ho 3 (by simp)
      obtain ⟨c0, c1, c2⟩ := (xa.later hC).c0
      obtain ⟨c3, c4, c5⟩ := (xa.later hC).c1
      obtain ⟨c6, c7, c8⟩ := (xa.later hC).c2
      refine Goes.pure (.agg #[.bool a1.s, .slice a1.no a1.nn a1.nc, .slice a1.eo a1.en a1.ec, .bool a2.s, .slice a2.no a2.nn a2.nc, .slice a2.eo a2.en a2.ec, .bool a3.s, .slice a3.no a3.nn a3.nc, .slice a3.eo a3.en a3.ec]) ?_ ⟨hC, Below.refl _ _, rfl⟩
      unfold Goes
      go_simp
    · have e57 : ρ (.tmp 57) = .agg #[.bool a1.s, .slice a1.no a1.nn a1.nc, .slice a1.eo a1.en a1.ec, .bool a2.s, .slice a2.no a2.nn a2.nc, .slice a2.eo a2.en a2.ec, .bool a3.s, .slice a3.no a3.nn a3.nc, .slice a3.eo a3.en a3.ec] := hd (50, 57) (by simp)
      refine Goes.call 22 #[.agg #[.bool a1.s, .slice a1.no a1.nn a1.nc, .slice a1.eo a1.en a1.ec, .bool a2.s, .slice a2.no a2.nn a2.nc, .slice a2.eo a2.en a2.ec, .bool a3.s, .slice a3.no a3.nn a3.nc, .slice a3.eo a3.en a3.ec]] (by go_simp) ?_
      refine Calls.mono (vread5 (ha.later hC) (by omega) (by omega)) ?_
      rintro e u' ⟨ra, rb, rc, rfl, cv, lb⟩
      exact ⟨_, rfl, hC.trans (lb.mono hC.size), lb, ⟨ra, rb, rc, rfl, cv⟩⟩
    · obtain ⟨ra56, rb56, rc56, e56, k56⟩ : VG (qa1) (qa2) (qa3) (K) (ρ (.tmp 56)) u := hd (49, 56) (by simp)
      obtain ⟨ra58, rb58, rc58, e58, k58⟩ : VG (qa1) (qa2) (qa3) (K) (ρ (.tmp 58)) u := hd (51, 58) (by simp)
      refine Goes.call 9 #[.agg #[.bool ra56.s, .slice ra56.no ra56.nn ra56.nc, .slice ra56.eo ra56.en ra56.ec, .bool rb56.s, .slice rb56.no rb56.nn rb56.nc, .slice rb56.eo rb56.en rb56.ec, .bool rc56.s, .slice rc56.no rc56.nn rc56.nc, .slice rc56.eo rc56.en rc56.ec], .agg #[.bool ra58.s, .slice ra58.no ra58.nn ra58.nc, .slice ra58.eo ra58.en ra58.ec, .bool rb58.s, .slice rb58.no rb58.nn rb58.nc, .slice rb58.eo rb58.en rb58.ec, .bool rc58.s, .slice rc58.no rc58.nn rc58.nc, .slice rc58.eo rc58.en rc58.ec]] (by go_simp) ?_
      refine Calls.mono (vis5 (k56) (k58) (by omega) (by omega)) ?_
      rintro e u' ⟨r, rfl, HR, lb⟩
      exact ⟨_, rfl, hC.trans (lb.mono hC.size), lb, by rw [HR.out.2 ⟨rfl, rfl, rfl⟩]; rfl⟩
    · have e54 : ρ (.tmp 54) = .bool true := hd (47, 54) (by simp)
      have e59 : ρ (.tmp 59) = .bool true := hd (52, 59) (by simp)
      refine Goes.pure (.bool true) ?_ ⟨hC, Below.refl _ _, rfl⟩
      unfold Goes
      go_simp
    · have e60 : ρ (.tmp 60) = .bool true := hd (53, 60) (by simp)
      refine Goes.pure (.bool true) ?_ ⟨hC, Below.refl _ _, rfl⟩
      unfold Goes
      go_simp
    · have e3 : ρ (.tmp 3) = .pointer (some ⟨ga, 0, none⟩) := ho 3 (by simp)
      obtain ⟨c0, c1, c2⟩ := (xa.later hC).c0
      obtain ⟨c3, c4, c5⟩ := (xa.later hC).c1
      obtain ⟨c6, c7, c8⟩ := (xa.later hC).c2
      refine Goes.pure (.agg #[.bool a1.s, .slice a1.no a1.nn a1.nc, .slice a1.eo a1.en a1.ec, .bool a2.s, .slice a2.no a2.nn a2.nc, .slice a2.eo a2.en a2.ec, .bool a3.s, .slice a3.no a3.nn a3.nc, .slice a3.eo a3.en a3.ec]) ?_ ⟨hC, Below.refl _ _, rfl⟩
      unfold Goes
      go_simp
    · have e4 : ρ (.tmp 4) = .pointer (some ⟨gb, 0, none⟩) := ho 4 (by simp)
      obtain ⟨c0, c1, c2⟩ := (xb.later hC).c0
      obtain ⟨c3, c4, c5⟩ := (xb.later hC).c1
      obtain ⟨c6, c7, c8⟩ := (xb.later hC).c2
      refine Goes.pure (.agg #[.bool b1.s, .slice b1.no b1.nn b1.nc, .slice b1.eo b1.en b1.ec, .bool b2.s, .slice b2.no b2.nn b2.nc, .slice b2.eo b2.en b2.ec, .bool b3.s, .slice b3.no b3.nn b3.nc, .slice b3.eo b3.en b3.ec]) ?_ ⟨hC, Below.refl _ _, rfl⟩
      unfold Goes
      go_simp
    · have e62 : ρ (.tmp 62) = .agg #[.bool a1.s, .slice a1.no a1.nn a1.nc, .slice a1.eo a1.en a1.ec, .bool a2.s, .slice a2.no a2.nn a2.nc, .slice a2.eo a2.en a2.ec, .bool a3.s, .slice a3.no a3.nn a3.nc, .slice a3.eo a3.en a3.ec] := hd (55, 62) (by simp)
      have e63 : ρ (.tmp 63) = .agg #[.bool b1.s, .slice b1.no b1.nn b1.nc, .slice b1.eo b1.en b1.ec, .bool b2.s, .slice b2.no b2.nn b2.nc, .slice b2.eo b2.en b2.ec, .bool b3.s, .slice b3.no b3.nn b3.nc, .slice b3.eo b3.en b3.ec] := hd (56, 63) (by simp)
      refine Goes.call 23 #[.agg #[.bool a1.s, .slice a1.no a1.nn a1.nc, .slice a1.eo a1.en a1.ec, .bool a2.s, .slice a2.no a2.nn a2.nc, .slice a2.eo a2.en a2.ec, .bool a3.s, .slice a3.no a3.nn a3.nc, .slice a3.eo a3.en a3.ec], .agg #[.bool b1.s, .slice b1.no b1.nn b1.nc, .slice b1.eo b1.en b1.ec, .bool b2.s, .slice b2.no b2.nn b2.nc, .slice b2.eo b2.en b2.ec, .bool b3.s, .slice b3.no b3.nn b3.nc, .slice b3.eo b3.en b3.ec]] (by go_simp) ?_
      refine Calls.mono (vsame_k (ha.later hC) (hb.later hC) (by omega) (by omega) (by omega)) ?_
      rintro e u' ⟨r, rfl, HR, lb⟩
      exact ⟨_, rfl, hC.trans (lb.mono hC.size), lb, ⟨r, rfl, HR⟩⟩
    · have e3 : ρ (.tmp 3) = .pointer (some ⟨ga, 0, none⟩) := ho 3 (by simp)
      obtain ⟨c0, c1, c2⟩ := (xa.later hC).c0
      obtain ⟨c3, c4, c5⟩ := (xa.later hC).c1
      obtain ⟨c6, c7, c8⟩ := (xa.later hC).c2
      refine Goes.pure (.agg #[.bool a1.s, .slice a1.no a1.nn a1.nc, .slice a1.eo a1.en a1.ec, .bool a2.s, .slice a2.no a2.nn a2.nc, .slice a2.eo a2.en a2.ec, .bool a3.s, .slice a3.no a3.nn a3.nc, .slice a3.eo a3.en a3.ec]) ?_ ⟨hC, Below.refl _ _, rfl⟩
      unfold Goes
      go_simp
    · have e65 : ρ (.tmp 65) = .agg #[.bool a1.s, .slice a1.no a1.nn a1.nc, .slice a1.eo a1.en a1.ec, .bool a2.s, .slice a2.no a2.nn a2.nc, .slice a2.eo a2.en a2.ec, .bool a3.s, .slice a3.no a3.nn a3.nc, .slice a3.eo a3.en a3.ec] := hd (58, 65) (by simp)
      refine Goes.call 22 #[.agg #[.bool a1.s, .slice a1.no a1.nn a1.nc, .slice a1.eo a1.en a1.ec, .bool a2.s, .slice a2.no a2.nn a2.nc, .slice a2.eo a2.en a2.ec, .bool a3.s, .slice a3.no a3.nn a3.nc, .slice a3.eo a3.en a3.ec]] (by go_simp) ?_
      refine Calls.mono (vread5 (ha.later hC) (by omega) (by omega)) ?_
      rintro e u' ⟨ra, rb, rc, rfl, cv, lb⟩
      exact ⟨_, rfl, hC.trans (lb.mono hC.size), lb, ⟨ra, rb, rc, rfl, cv⟩⟩
    · have e4 : ρ (.tmp 4) = .pointer (some ⟨gb, 0, none⟩) := ho 4 (by simp)
      obtain ⟨c0, c1, c2⟩ := (xb.later hC).c0
      obtain ⟨c3, c4, c5⟩ := (xb.later hC).c1
      obtain ⟨c6, c7, c8⟩ := (xb.later hC).c2
      refine Goes.pure (.agg #[.bool b1.s, .slice b1.no b1.nn b1.nc, .slice b1.eo b1.en b1.ec, .bool b2.s, .slice b2.no b2.nn b2.nc, .slice b2.eo b2.en b2.ec, .bool b3.s, .slice b3.no b3.nn b3.nc, .slice b3.eo b3.en b3.ec]) ?_ ⟨hC, Below.refl _ _, rfl⟩
      unfold Goes
      go_simp
    · have e67 : ρ (.tmp 67) = .agg #[.bool b1.s, .slice b1.no b1.nn b1.nc, .slice b1.eo b1.en b1.ec, .bool b2.s, .slice b2.no b2.nn b2.nc, .slice b2.eo b2.en b2.ec, .bool b3.s, .slice b3.no b3.nn b3.nc, .slice b3.eo b3.en b3.ec] := hd (60, 67) (by simp)
      refine Goes.call 22 #[.agg #[.bool b1.s, .slice b1.no b1.nn b1.nc, .slice b1.eo b1.en b1.ec, .bool b2.s, .slice b2.no b2.nn b2.nc, .slice b2.eo b2.en b2.ec, .bool b3.s, .slice b3.no b3.nn b3.nc, .slice b3.eo b3.en b3.ec]] (by go_simp) ?_
      refine Calls.mono (vread5 (hb.later hC) (by omega) (by omega)) ?_
      rintro e u' ⟨ra, rb, rc, rfl, cv, lb⟩
      exact ⟨_, rfl, hC.trans (lb.mono hC.size), lb, ⟨ra, rb, rc, rfl, cv⟩⟩
    · obtain ⟨ra66, rb66, rc66, e66, k66⟩ : VG (qa1) (qa2) (qa3) (K) (ρ (.tmp 66)) u := hd (59, 66) (by simp)
      obtain ⟨ra68, rb68, rc68, e68, k68⟩ : VG (qb1) (qb2) (qb3) (K) (ρ (.tmp 68)) u := hd (61, 68) (by simp)
      refine Goes.call 9 #[.agg #[.bool ra66.s, .slice ra66.no ra66.nn ra66.nc, .slice ra66.eo ra66.en ra66.ec, .bool rb66.s, .slice rb66.no rb66.nn rb66.nc, .slice rb66.eo rb66.en rb66.ec, .bool rc66.s, .slice rc66.no rc66.nn rc66.nc, .slice rc66.eo rc66.en rc66.ec], .agg #[.bool ra68.s, .slice ra68.no ra68.nn ra68.nc, .slice ra68.eo ra68.en ra68.ec, .bool rb68.s, .slice rb68.no rb68.nn rb68.nc, .slice rb68.eo rb68.en rb68.ec, .bool rc68.s, .slice rc68.no rc68.nn rc68.nc, .slice rc68.eo rc68.en rc68.ec]] (by go_simp) ?_
      refine Calls.mono (vis5 (k66) (k68) (by omega) (by omega)) ?_
      rintro e u' ⟨r, rfl, HR, lb⟩
      exact ⟨_, rfl, hC.trans (lb.mono hC.size), lb, ⟨r, rfl, HR⟩⟩
    · obtain ⟨r64, e64, k64⟩ : VB (qa1 = qb1 ∧ qa2 = qb2 ∧ qa3 = qb3) (ρ (.tmp 64)) u := hd (57, 64) (by simp)
      obtain ⟨r69, e69, k69⟩ : VB (qa1 = qb1 ∧ qa2 = qb2 ∧ qa3 = qb3) (ρ (.tmp 69)) u := hd (62, 69) (by simp)
      obtain rfl : r64 = r69 := by have h1 := k64.out; have h2 := k69.out; cases r64 <;> cases r69 <;> simp_all
      have hb0 : (r64 == r64) = true := by simp
      refine Goes.pure (.bool true) ?_ ⟨hC, Below.refl _ _, rfl⟩
      unfold Goes
      go_simp
    · have e61 : ρ (.tmp 61) = .bool true := hd (54, 61) (by simp)
      have e70 : ρ (.tmp 70) = .bool true := hd (63, 70) (by simp)
      refine Goes.pure (.bool true) ?_ ⟨hC, Below.refl _ _, rfl⟩
      unfold Goes
      go_simp
  · intro vs u hC hv
    have eR : vs 64 = .bool true := hv 64 (by omega)
    clear hv
    simp only [puts, List.take, List.drop, Act.put, List.setIfInBounds_toArray, List.set_cons_succ, List.set_cons_zero, Nat.reduceAdd, List.append_eq, List.cons_append, List.nil_append, eR]
    go_wp2
    go_ret
    exact ⟨rfl, B1.trans (hC.mono B1.size)⟩
end Go.Proofs.Ytmbemidacilakaa
