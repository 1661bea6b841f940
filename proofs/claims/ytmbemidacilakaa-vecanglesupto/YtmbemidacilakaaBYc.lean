/- penumbralaw05.VecAngles: true. -/
import Derived.Test.YtmbemidacilakaaAs
namespace Go.Proofs.Ytmbemidacilakaa
open Go.RowKit M Kahn
set_option maxRecDepth 100000

/-- A pointer to a Vec's block of zeros of one's own. -/
def VPv (B : Nat) : Value → World → Prop := fun v u => ∃ g, v = .pointer (some ⟨g, 0, none⟩) ∧ B ≤ g ∧ Vb u g zRP zRP zRP
theorem VPv.lasts (B : Nat) : Lasts (VPv B) := fun _ _ _ hb ⟨g, h1, h2, h3⟩ => ⟨g, h1, h2, h3.later hb⟩
theorem bx_VVV (w : World) (a0 b0 c0 a1 b1 c1 a2 b2 c2 : RP) : ∃ w0, w0 = (((w.alloc (.cells #[.bool a0.s, .slice a0.no a0.nn a0.nc, .slice a0.eo a0.en a0.ec, .bool b0.s, .slice b0.no b0.nn b0.nc, .slice b0.eo b0.en b0.ec, .bool c0.s, .slice c0.no c0.nn c0.nc, .slice c0.eo c0.en c0.ec] 26)).alloc (.cells #[.bool a1.s, .slice a1.no a1.nn a1.nc, .slice a1.eo a1.en a1.ec, .bool b1.s, .slice b1.no b1.nn b1.nc, .slice b1.eo b1.en b1.ec, .bool c1.s, .slice c1.no c1.nn c1.nc, .slice c1.eo c1.en c1.ec] 26)).alloc (.cells #[.bool a2.s, .slice a2.no a2.nn a2.nc, .slice a2.eo a2.en a2.ec, .bool b2.s, .slice b2.no b2.nn b2.nc, .slice b2.eo b2.en b2.ec, .bool c2.s, .slice c2.no c2.nn c2.nc, .slice c2.eo c2.en c2.ec] 26)) ∧ Vb w0 w.heap.size a0 b0 c0 ∧ Vb w0 (w.heap.size + 1) a1 b1 c1 ∧ Vb w0 (w.heap.size + 2) a2 b2 c2 ∧ Below w.heap.size w w0 := by
  obtain ⟨w1, h1⟩ : ∃ w1, w1 = w.alloc (.cells #[.bool a0.s, .slice a0.no a0.nn a0.nc, .slice a0.eo a0.en a0.ec, .bool b0.s, .slice b0.no b0.nn b0.nc, .slice b0.eo b0.en b0.ec, .bool c0.s, .slice c0.no c0.nn c0.nc, .slice c0.eo c0.en c0.ec] 26) := ⟨_, rfl⟩
  have l1 : Below w.heap.size w w1 := by rw [h1]; exact (Below.refl _ _).alloc (Nat.le_refl _) _
  have z1 : w1.heap.size = w.heap.size + 1 := by rw [h1]; simp
  have r1 : Vb w1 w.heap.size a0 b0 c0 := by rw [h1]; exact ⟨heap_alloc_new _ _⟩
  obtain ⟨w2, h2⟩ : ∃ w2, w2 = w1.alloc (.cells #[.bool a1.s, .slice a1.no a1.nn a1.nc, .slice a1.eo a1.en a1.ec, .bool b1.s, .slice b1.no b1.nn b1.nc, .slice b1.eo b1.en b1.ec, .bool c1.s, .slice c1.no c1.nn c1.nc, .slice c1.eo c1.en c1.ec] 26) := ⟨_, rfl⟩
  have l2 : Below w1.heap.size w1 w2 := by rw [h2]; exact (Below.refl _ _).alloc (Nat.le_refl _) _
  have z2 : w2.heap.size = w1.heap.size + 1 := by rw [h2]; simp
  have r2 : Vb w2 w1.heap.size a1 b1 c1 := by rw [h2]; exact ⟨heap_alloc_new _ _⟩
  obtain ⟨w3, h3⟩ : ∃ w3, w3 = w2.alloc (.cells #[.bool a2.s, .slice a2.no a2.nn a2.nc, .slice a2.eo a2.en a2.ec, .bool b2.s, .slice b2.no b2.nn b2.nc, .slice b2.eo b2.en b2.ec, .bool c2.s, .slice c2.no c2.nn c2.nc, .slice c2.eo c2.en c2.ec] 26) := ⟨_, rfl⟩
  have l3 : Below w2.heap.size w2 w3 := by rw [h3]; exact (Below.refl _ _).alloc (Nat.le_refl _) _
  have z3 : w3.heap.size = w2.heap.size + 1 := by rw [h3]; simp
  have r3 : Vb w3 w2.heap.size a2 b2 c2 := by rw [h3]; exact ⟨heap_alloc_new _ _⟩
  replace r1 := r1.later l2
  replace r1 := r1.later l3
  replace r2 := r2.later l3
  have b1 := l1
  have b2 := b1.trans (l2.mono b1.size)
  have b3 := b2.trans (l3.mono b2.size)
  rw [show w1.heap.size = w.heap.size + 1 from by omega] at r2
  rw [show w2.heap.size = w.heap.size + 2 from by omega] at r3
  exact ⟨w3, by rw [h3, h2, h1], r1, r2, r3, b3⟩
theorem bx_R (w : World) (a0 : RP) : ∃ w0, w0 = (w.alloc (.cells #[.bool a0.s, .slice a0.no a0.nn a0.nc, .slice a0.eo a0.en a0.ec] 24)) ∧ Rb w0 w.heap.size (.bool a0.s) (.slice a0.no a0.nn a0.nc) (.slice a0.eo a0.en a0.ec) ∧ Below w.heap.size w w0 := by
  obtain ⟨w1, h1⟩ : ∃ w1, w1 = w.alloc (.cells #[.bool a0.s, .slice a0.no a0.nn a0.nc, .slice a0.eo a0.en a0.ec] 24) := ⟨_, rfl⟩
  have l1 : Below w.heap.size w w1 := by rw [h1]; exact (Below.refl _ _).alloc (Nat.le_refl _) _
  have z1 : w1.heap.size = w.heap.size + 1 := by rw [h1]; simp
  have r1 : Rb w1 w.heap.size (.bool a0.s) (.slice a0.no a0.nn a0.nc) (.slice a0.eo a0.en a0.ec) := by rw [h1]; exact ⟨heap_alloc_new _ _⟩
  have b1 := l1
  exact ⟨w1, by rw [h1], r1, b1⟩
set_option maxHeartbeats 16000000 in
theorem vangles_any (w0 : World) (a1 a2 a3 : RP) (b1 b2 b3 : RP) (y1 y2 y3 : RP) (qa1 qa2 qa3 qb1 qb2 qb3 qy1 qy2 qy3 : Rat) (K : Nat) (ha : Qv w0 a1 a2 a3 qa1 qa2 qa3 K) (hb : Qv w0 b1 b2 b3 qb1 qb2 qb3 K) (hy : Qv w0 y1 y2 y3 qy1 qy2 qy3 K) (K1 : 1 ≤ K) (hK : K ≤ 1048576) : Calls Try.prog 5 #[.agg #[.bool a1.s, .slice a1.no a1.nn a1.nc, .slice a1.eo a1.en a1.ec, .bool a2.s, .slice a2.no a2.nn a2.nc, .slice a2.eo a2.en a2.ec, .bool a3.s, .slice a3.no a3.nn a3.nc, .slice a3.eo a3.en a3.ec], .agg #[.bool b1.s, .slice b1.no b1.nn b1.nc, .slice b1.eo b1.en b1.ec, .bool b2.s, .slice b2.no b2.nn b2.nc, .slice b2.eo b2.en b2.ec, .bool b3.s, .slice b3.no b3.nn b3.nc, .slice b3.eo b3.en b3.ec], .agg #[.bool y1.s, .slice y1.no y1.nn y1.nc, .slice y1.eo y1.en y1.ec, .bool y2.s, .slice y2.no y2.nn y2.nc, .slice y2.eo y2.en y2.ec, .bool y3.s, .slice y3.no y3.nn y3.nc, .slice y3.eo y3.en y3.ec]] w0 fun e w' => e = .returned (.bool true) ∧ Below w0.heap.size w0 w' := by
  have B0 : Below w0.heap.size w0 w0 := Below.refl _ _
  obtain ⟨w1, hw, xa, xb, xy, lb⟩ := bx_VVV w0 a1 a2 a3 b1 b2 b3 y1 y2 y3
  obtain ⟨ga, hga⟩ : ∃ ga, ga = w0.heap.size := ⟨_, rfl⟩
  obtain ⟨gb, hgb⟩ : ∃ gb, gb = w0.heap.size + 1 := ⟨_, rfl⟩
  obtain ⟨gy, hgy⟩ : ∃ gy, gy = w0.heap.size + 2 := ⟨_, rfl⟩
  replace ha := ha.later lb
  replace hb := hb.later lb
  replace hy := hy.later lb
  have B1 := B0.trans (lb.mono B0.size)
  clear B0 lb
  obtain ⟨xa_0, xa_1, xa_2⟩ := xa.c0
  obtain ⟨xa_3, xa_4, xa_5⟩ := xa.c1
  obtain ⟨xa_6, xa_7, xa_8⟩ := xa.c2
  obtain ⟨xb_0, xb_1, xb_2⟩ := xb.c0
  obtain ⟨xb_3, xb_4, xb_5⟩ := xb.c1
  obtain ⟨xb_6, xb_7, xb_8⟩ := xb.c2
  obtain ⟨xy_0, xy_1, xy_2⟩ := xy.c0
  obtain ⟨xy_3, xy_4, xy_5⟩ := xy.c1
  obtain ⟨xy_6, xy_7, xy_8⟩ := xy.c2
  rw [hw] at xa_0 xa_1 xa_2 xa_3 xa_4 xa_5 xa_6 xa_7 xa_8 xb_0 xb_1 xb_2 xb_3 xb_4 xb_5 xb_6 xb_7 xb_8 xy_0 xy_1 xy_2 xy_3 xy_4 xy_5 xy_6 xy_7 xy_8
  go_enter Try.func5, Try.ntmps5
  go_wp2
  rw [← hw, ← hgy, ← hgb, ← hga]
  rw [← hga] at xa
  rw [← hgb] at xb
  rw [← hgy] at xy
  clear hw hga hgb hgy xa_0 xa_1 xa_2 xa_3 xa_4 xa_5 xa_6 xa_7 xa_8 xb_0 xb_1 xb_2 xb_3 xb_4 xb_5 xb_6 xb_7 xb_8 xy_0 xy_1 xy_2 xy_3 xy_4 xy_5 xy_6 xy_7 xy_8
  have HLst : Lst [VV (.agg #[.bool a1.s, .slice a1.no a1.nn a1.nc, .slice a1.eo a1.en a1.ec, .bool a2.s, .slice a2.no a2.nn a2.nc, .slice a2.eo a2.en a2.ec, .bool a3.s, .slice a3.no a3.nn a3.nc, .slice a3.eo a3.en a3.ec]), VV (.agg #[.bool b1.s, .slice b1.no b1.nn b1.nc, .slice b1.eo b1.en b1.ec, .bool b2.s, .slice b2.no b2.nn b2.nc, .slice b2.eo b2.en b2.ec, .bool b3.s, .slice b3.no b3.nn b3.nc, .slice b3.eo b3.en b3.ec]), VG (qa2 * qb3 - qa3 * qb2) (qa3 * qb1 - qa1 * qb3) (qa1 * qb2 - qa2 * qb1) (K + (K) + (K + (K)) + 1), VV (.agg #[.bool a1.s, .slice a1.no a1.nn a1.nc, .slice a1.eo a1.en a1.ec, .bool a2.s, .slice a2.no a2.nn a2.nc, .slice a2.eo a2.en a2.ec, .bool a3.s, .slice a3.no a3.nn a3.nc, .slice a3.eo a3.en a3.ec]), VV (.agg #[.bool b1.s, .slice b1.no b1.nn b1.nc, .slice b1.eo b1.en b1.ec, .bool b2.s, .slice b2.no b2.nn b2.nc, .slice b2.eo b2.en b2.ec, .bool b3.s, .slice b3.no b3.nn b3.nc, .slice b3.eo b3.en b3.ec]), VC (qa1 * qb1 + qa2 * qb2 + qa3 * qb3) (3 * (K + (K)) + 2), VPv w1.heap.size, VP w1.heap.size] := ⟨VV.lasts _, VV.lasts _, VG.lasts _ _ _ _, VV.lasts _, VV.lasts _, VC.lasts _ _, VPv.lasts _, VP.lasts _, trivial⟩
  refine wp_region_kahn 8 83 [([], [3]), ([], [4]), ([(0, 11), (1, 12)], []), ([], [3]), ([], [4]), ([(3, 14), (4, 15)], []), ([], []), ([], [])]
    (fun u => Below w1.heap.size w1 u) (fun u u' => Below u.heap.size u u')
    (Sp [VV (.agg #[.bool a1.s, .slice a1.no a1.nn a1.nc, .slice a1.eo a1.en a1.ec, .bool a2.s, .slice a2.no a2.nn a2.nc, .slice a2.eo a2.en a2.ec, .bool a3.s, .slice a3.no a3.nn a3.nc, .slice a3.eo a3.en a3.ec]), VV (.agg #[.bool b1.s, .slice b1.no b1.nn b1.nc, .slice b1.eo b1.en b1.ec, .bool b2.s, .slice b2.no b2.nn b2.nc, .slice b2.eo b2.en b2.ec, .bool b3.s, .slice b3.no b3.nn b3.nc, .slice b3.eo b3.en b3.ec]), VG (qa2 * qb3 - qa3 * qb2) (qa3 * qb1 - qa1 * qb3) (qa1 * qb2 - qa2 * qb1) (K + (K) + (K + (K)) + 1), VV (.agg #[.bool a1.s, .slice a1.no a1.nn a1.nc, .slice a1.eo a1.en a1.ec, .bool a2.s, .slice a2.no a2.nn a2.nc, .slice a2.eo a2.en a2.ec, .bool a3.s, .slice a3.no a3.nn a3.nc, .slice a3.eo a3.en a3.ec]), VV (.agg #[.bool b1.s, .slice b1.no b1.nn b1.nc, .slice b1.eo b1.en b1.ec, .bool b2.s, .slice b2.no b2.nn b2.nc, .slice b2.eo b2.en b2.ec, .bool b3.s, .slice b3.no b3.nn b3.nc, .slice b3.eo b3.en b3.ec]), VC (qa1 * qb1 + qa2 * qb2 + qa3 * qb3) (3 * (K + (K)) + 2), VPv w1.heap.size, VP w1.heap.size])
    (by kernel_rfl) rfl (by kernel_rfl) (Below.refl _ _).drew (fun k v u u' _ hg hs => Sp.lasts HLst k v u u' hg hs) ?_ ?_
  · clear HLst
    refine ⟨.inl ⟨by simp, fun ρ u hC hc hf hd ho => ?_⟩, .inl ⟨by simp, fun ρ u hC hc hf hd ho => ?_⟩, .inl ⟨by simp, fun ρ u hC hc hf hd ho => ?_⟩, .inl ⟨by simp, fun ρ u hC hc hf hd ho => ?_⟩, .inl ⟨by simp, fun ρ u hC hc hf hd ho => ?_⟩, .inl ⟨by simp, fun ρ u hC hc hf hd ho => ?_⟩, .inl ⟨by simp, fun ρ u hC hc hf hd ho => ?_⟩, .inl ⟨by simp, fun ρ u hC hc hf hd ho => ?_⟩, trivial⟩
    · have e3 : ρ (.tmp 3) = .pointer (some ⟨ga, 0, none⟩) := ho 3 (by simp)
      obtain ⟨c0, c1, c2⟩ := (xa.later hC).c0
      obtain ⟨c3, c4, c5⟩ := (xa.later hC).c1
      obtain ⟨c6, c7, c8⟩ := (xa.later hC).c2
      refine Goes.pure (.agg #[.bool a1.s, .slice a1.no a1.nn a1.nc, .slice a1.eo a1.en a1.ec, .bool a2.s, .slice a2.no a2.nn a2.nc, .slice a2.eo a2.en a2.ec, .bool a3.s, .slice a3.no a3.nn a3.nc, .slice a3.eo a3.en a3.ec]) ?_ ⟨hC, Below.refl _ _, rfl⟩
      unfold Goes
      go_simp
    · have e4 : ρ (.tmp 4) = .pointer (some ⟨gb, 0, none⟩) := ho 4 (by simp)
      obtain ⟨c0, c1, c2⟩ := (xb.later hC).c0
      obtain ⟨c3, c4, c5⟩ := (xb.later hC).c1
      obtain ⟨c6, c7, c8⟩ := (xb.later hC).c2
      refine Goes.pure (.agg #[.bool b1.s, .slice b1.no b1.nn b1.nc, .slice b1.eo b1.en b1.ec, .bool b2.s, .slice b2.no b2.nn b2.nc, .slice b2.eo b2.en b2.ec, .bool b3.s, .slice b3.no b3.nn b3.nc, .slice b3.eo b3.en b3.ec]) ?_ ⟨hC, Below.refl _ _, rfl⟩
      unfold Goes
      go_simp
    · have e11 : ρ (.tmp 11) = .agg #[.bool a1.s, .slice a1.no a1.nn a1.nc, .slice a1.eo a1.en a1.ec, .bool a2.s, .slice a2.no a2.nn a2.nc, .slice a2.eo a2.en a2.ec, .bool a3.s, .slice a3.no a3.nn a3.nc, .slice a3.eo a3.en a3.ec] := hd (0, 11) (by simp)
      have e12 : ρ (.tmp 12) = .agg #[.bool b1.s, .slice b1.no b1.nn b1.nc, .slice b1.eo b1.en b1.ec, .bool b2.s, .slice b2.no b2.nn b2.nc, .slice b2.eo b2.en b2.ec, .bool b3.s, .slice b3.no b3.nn b3.nc, .slice b3.eo b3.en b3.ec] := hd (1, 12) (by simp)
      refine Goes.call 19 #[.agg #[.bool a1.s, .slice a1.no a1.nn a1.nc, .slice a1.eo a1.en a1.ec, .bool a2.s, .slice a2.no a2.nn a2.nc, .slice a2.eo a2.en a2.ec, .bool a3.s, .slice a3.no a3.nn a3.nc, .slice a3.eo a3.en a3.ec], .agg #[.bool b1.s, .slice b1.no b1.nn b1.nc, .slice b1.eo b1.en b1.ec, .bool b2.s, .slice b2.no b2.nn b2.nc, .slice b2.eo b2.en b2.ec, .bool b3.s, .slice b3.no b3.nn b3.nc, .slice b3.eo b3.en b3.ec]] (by go_simp) ?_
      refine Calls.mono (vcross_k (ha.later hC) (hb.later hC) (by omega) (by omega) (by omega)) ?_
      rintro e u' ⟨ra, rb, rc, rfl, cv, lb⟩
      exact ⟨_, rfl, hC.trans (lb.mono hC.size), lb, ⟨ra, rb, rc, rfl, cv⟩⟩
    · have e3 : ρ (.tmp 3) = .pointer (some ⟨ga, 0, none⟩) := ho 3 (by simp)
      obtain ⟨c0, c1, c2⟩ := (xa.later hC).c0
      obtain ⟨c3, c4, c5⟩ := (xa.later hC).c1
      obtain ⟨c6, c7, c8⟩ := (xa.later hC).c2
      refine Goes.pure (.agg #[.bool a1.s, .slice a1.no a1.nn a1.nc, .slice a1.eo a1.en a1.ec, .bool a2.s, .slice a2.no a2.nn a2.nc, .slice a2.eo a2.en a2.ec, .bool a3.s, .slice a3.no a3.nn a3.nc, .slice a3.eo a3.en a3.ec]) ?_ ⟨hC, Below.refl _ _, rfl⟩
      unfold Goes
      go_simp
    · have e4 : ρ (.tmp 4) = .pointer (some ⟨gb, 0, none⟩) := ho 4 (by simp)
      obtain ⟨c0, c1, c2⟩ := (xb.later hC).c0
      obtain ⟨c3, c4, c5⟩ := (xb.later hC).c1
      obtain ⟨c6, c7, c8⟩ := (xb.later hC).c2
      refine Goes.pure (.agg #[.bool b1.s, .slice b1.no b1.nn b1.nc, .slice b1.eo b1.en b1.ec, .bool b2.s, .slice b2.no b2.nn b2.nc, .slice b2.eo b2.en b2.ec, .bool b3.s, .slice b3.no b3.nn b3.nc, .slice b3.eo b3.en b3.ec]) ?_ ⟨hC, Below.refl _ _, rfl⟩
      unfold Goes
      go_simp
    · have e14 : ρ (.tmp 14) = .agg #[.bool a1.s, .slice a1.no a1.nn a1.nc, .slice a1.eo a1.en a1.ec, .bool a2.s, .slice a2.no a2.nn a2.nc, .slice a2.eo a2.en a2.ec, .bool a3.s, .slice a3.no a3.nn a3.nc, .slice a3.eo a3.en a3.ec] := hd (3, 14) (by simp)
      have e15 : ρ (.tmp 15) = .agg #[.bool b1.s, .slice b1.no b1.nn b1.nc, .slice b1.eo b1.en b1.ec, .bool b2.s, .slice b2.no b2.nn b2.nc, .slice b2.eo b2.en b2.ec, .bool b3.s, .slice b3.no b3.nn b3.nc, .slice b3.eo b3.en b3.ec] := hd (4, 15) (by simp)
      refine Goes.call 17 #[.agg #[.bool a1.s, .slice a1.no a1.nn a1.nc, .slice a1.eo a1.en a1.ec, .bool a2.s, .slice a2.no a2.nn a2.nc, .slice a2.eo a2.en a2.ec, .bool a3.s, .slice a3.no a3.nn a3.nc, .slice a3.eo a3.en a3.ec], .agg #[.bool b1.s, .slice b1.no b1.nn b1.nc, .slice b1.eo b1.en b1.ec, .bool b2.s, .slice b2.no b2.nn b2.nc, .slice b2.eo b2.en b2.ec, .bool b3.s, .slice b3.no b3.nn b3.nc, .slice b3.eo b3.en b3.ec]] (by go_simp) ?_
      refine Calls.mono (vdot_k (ha.later hC) (hb.later hC) (by omega) (by omega) (by omega)) ?_
      rintro e u' ⟨s1, no1, nn1, nc1, eo1, en1, ec1, rfl, cq, lb⟩
      exact ⟨_, rfl, hC.trans (lb.mono hC.size), lb, ⟨s1, no1, nn1, nc1, eo1, en1, ec1, rfl, cq⟩⟩
    · have lb : Below u.heap.size u (u.alloc (.cells #[.bool false, .slice none 0 0, .slice none 0 0, .bool false, .slice none 0 0, .slice none 0 0, .bool false, .slice none 0 0, .slice none 0 0] 26)) := (Below.refl _ _).alloc (Nat.le_refl _) _
      refine Goes.run (.pointer (some ⟨u.heap.size, 0, none⟩)) (u.alloc (.cells #[.bool false, .slice none 0 0, .slice none 0 0, .bool false, .slice none 0 0, .slice none 0 0, .bool false, .slice none 0 0, .slice none 0 0] 26)) (by go_simp) ⟨hC.trans (lb.mono hC.size), lb, ⟨_, rfl, hC.size, ⟨heap_alloc_new _ _⟩⟩⟩
    · have lb : Below u.heap.size u (u.alloc (.cells #[.bool false, .slice none 0 0, .slice none 0 0] 24)) := (Below.refl _ _).alloc (Nat.le_refl _) _
      refine Goes.run (.pointer (some ⟨u.heap.size, 0, none⟩)) (u.alloc (.cells #[.bool false, .slice none 0 0, .slice none 0 0] 24)) (by go_simp) ⟨hC.trans (lb.mono hC.size), lb, ⟨_, rfl, hC.size, ⟨heap_alloc_new _ _⟩⟩⟩
  · intro vs u lb hv
    obtain ⟨x1, x2, x3, ex, cx⟩ : VG (qa2 * qb3 - qa3 * qb2) (qa3 * qb1 - qa1 * qb3) (qa1 * qb2 - qa2 * qb1) (K + (K) + (K + (K)) + 1) (vs 2) u := hv 2 (by omega)
    obtain ⟨d, ed, cd⟩ : ∃ d : RP, vs 5 = .agg #[.bool d.s, .slice d.no d.nn d.nc, .slice d.eo d.en d.ec] ∧ Cp u d (qa1 * qb1 + qa2 * qb2 + qa3 * qb3) (3 * (K + (K)) + 2) := by
      obtain ⟨s1, no1, nn1, nc1, eo1, en1, ec1, e1, c1⟩ : VC (qa1 * qb1 + qa2 * qb2 + qa3 * qb3) (3 * (K + (K)) + 2) (vs 5) u := hv 5 (by omega)
      exact ⟨⟨s1, no1, nn1, nc1, eo1, en1, ec1⟩, e1, c1⟩
    obtain ⟨gx, eP, pg, xx⟩ : VPv w1.heap.size (vs 6) u := hv 6 (by omega)
    obtain ⟨gd, eR, dg, xd⟩ : VP w1.heap.size (vs 7) u := hv 7 (by omega)
    clear hv
    have hne : gx ≠ gd := fun e => by have h := xx.at_; rw [e, xd.at_] at h; simp at h
    have f1 := putV.fr gx u x1 x2 x3
    have xz : Rb (putV u gx x1 x2 x3) gd (.bool zRP.s) (.slice zRP.no zRP.nn zRP.nc) (.slice zRP.eo zRP.en zRP.ec) := xd.keep (f1.block gd hne.symm)
    have f2 := Rb.putFr gd (putV u gx x1 x2 x3) (.bool d.s) (.slice d.no d.nn d.nc) (.slice d.eo d.en d.ec)
    obtain ⟨w2, hw⟩ : ∃ w2, w2 = putU u gx gd x1 x2 x3 d := ⟨_, rfl⟩
    have xx2 : Vb w2 gx x1 x2 x3 := by rw [hw]; exact (xx.put x1 x2 x3).keep (f2.block gx hne)
    have xd2 : Rb w2 gd (.bool d.s) (.slice d.no d.nn d.nc) (.slice d.eo d.en d.ec) := by rw [hw]; exact xz.put _ _ _
    have cx1 := cx.storeV xx f1
    have cx2 : Cv w2 x1 x2 x3 (qa2 * qb3 - qa3 * qb2) (qa3 * qb1 - qa1 * qb3) (qa1 * qb2 - qa2 * qb1) (K + (K) + (K + (K)) + 1) := by rw [hw]; exact ⟨cx1.x.store xz f2, cx1.y.store xz f2, cx1.z.store xz f2⟩
    have cd2 : Cp w2 d (qa1 * qb1 + qa2 * qb2 + qa3 * qb3) (3 * (K + (K)) + 2) := by rw [hw]; exact (cd.storeV xx f1).store xz f2
    have lb2 : Below w1.heap.size w1 w2 := by rw [hw]; exact (lb.trans (f1.below pg)).trans (f2.below dg)
    obtain ⟨c0, c1, c2⟩ := xx.c0
    obtain ⟨c3, c4, c5⟩ := xx.c1
    obtain ⟨c6, c7, c8⟩ := xx.c2
    have f0' := xx.free 0
    have f1' := xx.free 1
    have f2' := xx.free 2
    have f3' := xx.free 3
    have f4' := xx.free 4
    have f5' := xx.free 5
    have f6' := xx.free 6
    have f7' := xx.free 7
    have f8' := xx.free 8
    obtain ⟨d0, d1, d2⟩ := xz.cells
    have p0 := xz.free 0
    have p1 := xz.free 1
    have p2 := xz.free 2
    unfold putV at d0 d1 d2 p0 p1 p2
    unfold putU putV at hw
    clear f1 f2 cx1 cx cd lb pg dg
    simp only [puts, List.take, List.drop, Act.put, List.setIfInBounds_toArray, List.set_cons_succ, List.set_cons_zero, Nat.reduceAdd, ex, ed, eP, eR]
    clear ex ed eP eR
    go_wp2_with fail
    rw [← hw]
    clear hw xz xd xx hne c0 f0' c1 f1' c2 f2' c3 f3' c4 f4' c5 f5' c6 f6' c7 f7' c8 f8' d0 d1 d2 p0 p1 p2
    replace ha := ha.later lb2
    replace hb := hb.later lb2
    replace hy := hy.later lb2
    replace xa := xa.later lb2
    replace xb := xb.later lb2
    replace xy := xy.later lb2
    have B2 := B1.trans (lb2.mono B1.size)
    clear B1 lb2
    refine (fixed5_any w2).mono ?_
    rintro e w3 ⟨rfl, lb⟩
    replace ha := ha.later lb
    replace hb := hb.later lb
    replace hy := hy.later lb
    replace xa := xa.later lb
    replace xb := xb.later lb
    replace xy := xy.later lb
    replace xx2 := xx2.later lb
    replace xd2 := xd2.later lb
    replace cx2 := cx2.later lb
    replace cd2 := cd2.later lb
    have B3 := B2.trans (lb.mono B2.size)
    clear B2 lb
    obtain ⟨xx2_0, xx2_1, xx2_2⟩ := xx2.c0
    obtain ⟨xx2_3, xx2_4, xx2_5⟩ := xx2.c1
    obtain ⟨xx2_6, xx2_7, xx2_8⟩ := xx2.c2
    obtain ⟨xa_0, xa_1, xa_2⟩ := xa.c0
    obtain ⟨xa_3, xa_4, xa_5⟩ := xa.c1
    obtain ⟨xa_6, xa_7, xa_8⟩ := xa.c2
    go_wp2_with fail
    clear xx2_0 xx2_1 xx2_2 xx2_3 xx2_4 xx2_5 xx2_6 xx2_7 xx2_8 xa_0 xa_1 xa_2 xa_3 xa_4 xa_5 xa_6 xa_7 xa_8
    refine (vdot_k (cx2.rd) ha (by omega) (by omega) (by omega)).mono ?_
    rintro e w4 ⟨s1, no1, nn1, nc1, eo1, en1, ec1, rfl, cq, lb⟩
    replace ha := ha.later lb
    replace hb := hb.later lb
    replace hy := hy.later lb
    replace xa := xa.later lb
    replace xb := xb.later lb
    replace xy := xy.later lb
    replace xx2 := xx2.later lb
    replace xd2 := xd2.later lb
    replace cx2 := cx2.later lb
    replace cd2 := cd2.later lb
    have B4 := B3.trans (lb.mono B3.size)
    clear B3 lb
    go_wp2_with fail
    refine (ratSign_k cq.rd (by omega)).mono ?_
    rintro e w5 ⟨rfl, lb⟩
    replace ha := ha.later lb
    replace hb := hb.later lb
    replace hy := hy.later lb
    replace xa := xa.later lb
    replace xb := xb.later lb
    replace xy := xy.later lb
    replace xx2 := xx2.later lb
    replace xd2 := xd2.later lb
    replace cx2 := cx2.later lb
    replace cd2 := cd2.later lb
    have B5 := B4.trans (lb.mono B4.size)
    clear B4 lb
    clear cq
    rw [qsgn_zero.2 (show (qa2 * qb3 - qa3 * qb2) * qa1 + (qa3 * qb1 - qa1 * qb3) * qa2 + (qa1 * qb2 - qa2 * qb1) * qa3 = 0 from by grind)]
    obtain ⟨xx2_0, xx2_1, xx2_2⟩ := xx2.c0
    obtain ⟨xx2_3, xx2_4, xx2_5⟩ := xx2.c1
    obtain ⟨xx2_6, xx2_7, xx2_8⟩ := xx2.c2
    obtain ⟨xb_0, xb_1, xb_2⟩ := xb.c0
    obtain ⟨xb_3, xb_4, xb_5⟩ := xb.c1
    obtain ⟨xb_6, xb_7, xb_8⟩ := xb.c2
    go_wp2_with fail
    clear xx2_0 xx2_1 xx2_2 xx2_3 xx2_4 xx2_5 xx2_6 xx2_7 xx2_8 xb_0 xb_1 xb_2 xb_3 xb_4 xb_5 xb_6 xb_7 xb_8
    refine (vdot_k (cx2.rd) hb (by omega) (by omega) (by omega)).mono ?_
    rintro e w6 ⟨s1, no1, nn1, nc1, eo1, en1, ec1, rfl, cq, lb⟩
    replace ha := ha.later lb
    replace hb := hb.later lb
    replace hy := hy.later lb
    replace xa := xa.later lb
    replace xb := xb.later lb
    replace xy := xy.later lb
    replace xx2 := xx2.later lb
    replace xd2 := xd2.later lb
    replace cx2 := cx2.later lb
    replace cd2 := cd2.later lb
    have B6 := B5.trans (lb.mono B5.size)
    clear B5 lb
    go_wp2_with fail
    refine (ratSign_k cq.rd (by omega)).mono ?_
    rintro e w7 ⟨rfl, lb⟩
    replace ha := ha.later lb
    replace hb := hb.later lb
    replace hy := hy.later lb
    replace xa := xa.later lb
    replace xb := xb.later lb
    replace xy := xy.later lb
    replace xx2 := xx2.later lb
    replace xd2 := xd2.later lb
    replace cx2 := cx2.later lb
    replace cd2 := cd2.later lb
    have B7 := B6.trans (lb.mono B6.size)
    clear B6 lb
    clear cq
    rw [qsgn_zero.2 (show (qa2 * qb3 - qa3 * qb2) * qb1 + (qa3 * qb1 - qa1 * qb3) * qb2 + (qa1 * qb2 - qa2 * qb1) * qb3 = 0 from by grind)]
    obtain ⟨xx2_0, xx2_1, xx2_2⟩ := xx2.c0
    obtain ⟨xx2_3, xx2_4, xx2_5⟩ := xx2.c1
    obtain ⟨xx2_6, xx2_7, xx2_8⟩ := xx2.c2
    obtain ⟨xy_0, xy_1, xy_2⟩ := xy.c0
    obtain ⟨xy_3, xy_4, xy_5⟩ := xy.c1
    obtain ⟨xy_6, xy_7, xy_8⟩ := xy.c2
    go_wp2_with fail
    clear xx2_0 xx2_1 xx2_2 xx2_3 xx2_4 xx2_5 xx2_6 xx2_7 xx2_8 xy_0 xy_1 xy_2 xy_3 xy_4 xy_5 xy_6 xy_7 xy_8
    refine (vdot_k (cx2.rd) hy (by omega) (by omega) (by omega)).mono ?_
    rintro e w8 ⟨s1, no1, nn1, nc1, eo1, en1, ec1, rfl, cq, lb⟩
    replace ha := ha.later lb
    replace hb := hb.later lb
    replace hy := hy.later lb
    replace xa := xa.later lb
    replace xb := xb.later lb
    replace xy := xy.later lb
    replace xx2 := xx2.later lb
    replace xd2 := xd2.later lb
    replace cx2 := cx2.later lb
    replace cd2 := cd2.later lb
    have B8 := B7.trans (lb.mono B7.size)
    clear B7 lb
    obtain ⟨v, hv⟩ : ∃ v : RP, v = ⟨s1, no1, nn1, nc1, eo1, en1, ec1⟩ := ⟨_, rfl⟩
    have cv : Cp w8 v ((qa2 * qb3 - qa3 * qb2) * qy1 + (qa3 * qb1 - qa1 * qb3) * qy2 + (qa1 * qb2 - qa2 * qb1) * qy3) (3 * (K + (K) + (K + (K)) + 1 + K) + 2) := by rw [hv]; exact cq
    clear cq
    obtain ⟨w9, hw, xv, lb⟩ := bx_R w8 v
    obtain ⟨gv, hgv⟩ : ∃ gv, gv = w8.heap.size := ⟨_, rfl⟩
    rw [← hgv] at xv
    replace ha := ha.later lb
    replace hb := hb.later lb
    replace hy := hy.later lb
    replace xa := xa.later lb
    replace xb := xb.later lb
    replace xy := xy.later lb
    replace xx2 := xx2.later lb
    replace xd2 := xd2.later lb
    replace cx2 := cx2.later lb
    replace cd2 := cd2.later lb
    replace cv := cv.later lb
    have B9 := B8.trans (lb.mono B8.size)
    clear B8 lb
    rw [hv] at hw
    go_wp2
    rw [← hw, ← hgv]
    clear hw hgv
    clear hv
    have HLst : Lst [VV (.agg #[.bool v.s, .slice v.no v.nn v.nc, .slice v.eo v.en v.ec]), VV (.agg #[.bool b1.s, .slice b1.no b1.nn b1.nc, .slice b1.eo b1.en b1.ec, .bool b2.s, .slice b2.no b2.nn b2.nc, .slice b2.eo b2.en b2.ec, .bool b3.s, .slice b3.no b3.nn b3.nc, .slice b3.eo b3.en b3.ec]), VV (.agg #[.bool y1.s, .slice y1.no y1.nn y1.nc, .slice y1.eo y1.en y1.ec, .bool y2.s, .slice y2.no y2.nn y2.nc, .slice y2.eo y2.en y2.ec, .bool y3.s, .slice y3.no y3.nn y3.nc, .slice y3.eo y3.en y3.ec]), VG (qb2 * qy3 - qb3 * qy2) (qb3 * qy1 - qb1 * qy3) (qb1 * qy2 - qb2 * qy1) (K + (K) + (K + (K)) + 1), VV (.agg #[.bool a1.s, .slice a1.no a1.nn a1.nc, .slice a1.eo a1.en a1.ec, .bool a2.s, .slice a2.no a2.nn a2.nc, .slice a2.eo a2.en a2.ec, .bool a3.s, .slice a3.no a3.nn a3.nc, .slice a3.eo a3.en a3.ec]), VC ((qb2 * qy3 - qb3 * qy2) * qa1 + (qb3 * qy1 - qb1 * qy3) * qa2 + (qb1 * qy2 - qb2 * qy1) * qa3) (3 * (K + (K) + (K + (K)) + 1 + (K)) + 2), VV (.bool true), VV (.bool true), VV (.agg #[.bool v.s, .slice v.no v.nn v.nc, .slice v.eo v.en v.ec]), VV (.agg #[.bool y1.s, .slice y1.no y1.nn y1.nc, .slice y1.eo y1.en y1.ec, .bool y2.s, .slice y2.no y2.nn y2.nc, .slice y2.eo y2.en y2.ec, .bool y3.s, .slice y3.no y3.nn y3.nc, .slice y3.eo y3.en y3.ec]), VV (.agg #[.bool a1.s, .slice a1.no a1.nn a1.nc, .slice a1.eo a1.en a1.ec, .bool a2.s, .slice a2.no a2.nn a2.nc, .slice a2.eo a2.en a2.ec, .bool a3.s, .slice a3.no a3.nn a3.nc, .slice a3.eo a3.en a3.ec]), VG (qy2 * qa3 - qy3 * qa2) (qy3 * qa1 - qy1 * qa3) (qy1 * qa2 - qy2 * qa1) (K + (K) + (K + (K)) + 1), VV (.agg #[.bool b1.s, .slice b1.no b1.nn b1.nc, .slice b1.eo b1.en b1.ec, .bool b2.s, .slice b2.no b2.nn b2.nc, .slice b2.eo b2.en b2.ec, .bool b3.s, .slice b3.no b3.nn b3.nc, .slice b3.eo b3.en b3.ec]), VC ((qy2 * qa3 - qy3 * qa2) * qb1 + (qy3 * qa1 - qy1 * qa3) * qb2 + (qy1 * qa2 - qy2 * qa1) * qb3) (3 * (K + (K) + (K + (K)) + 1 + (K)) + 2), VV (.bool true), VV (.bool true), VV (.bool true), VV (.agg #[.bool v.s, .slice v.no v.nn v.nc, .slice v.eo v.en v.ec]), VV (.agg #[.bool b1.s, .slice b1.no b1.nn b1.nc, .slice b1.eo b1.en b1.ec, .bool b2.s, .slice b2.no b2.nn b2.nc, .slice b2.eo b2.en b2.ec, .bool b3.s, .slice b3.no b3.nn b3.nc, .slice b3.eo b3.en b3.ec]), VV (.agg #[.bool a1.s, .slice a1.no a1.nn a1.nc, .slice a1.eo a1.en a1.ec, .bool a2.s, .slice a2.no a2.nn a2.nc, .slice a2.eo a2.en a2.ec, .bool a3.s, .slice a3.no a3.nn a3.nc, .slice a3.eo a3.en a3.ec]), VG (qb2 * qa3 - qb3 * qa2) (qb3 * qa1 - qb1 * qa3) (qb1 * qa2 - qb2 * qa1) (K + (K) + (K + (K)) + 1), VV (.agg #[.bool y1.s, .slice y1.no y1.nn y1.nc, .slice y1.eo y1.en y1.ec, .bool y2.s, .slice y2.no y2.nn y2.nc, .slice y2.eo y2.en y2.ec, .bool y3.s, .slice y3.no y3.nn y3.nc, .slice y3.eo y3.en y3.ec]), VC ((qb2 * qa3 - qb3 * qa2) * qy1 + (qb3 * qa1 - qb1 * qa3) * qy2 + (qb1 * qa2 - qb2 * qa1) * qy3) (3 * (K + (K) + (K + (K)) + 1 + (K)) + 2), VC (-((qb2 * qa3 - qb3 * qa2) * qy1 + (qb3 * qa1 - qb1 * qa3) * qy2 + (qb1 * qa2 - qb2 * qa1) * qy3)) (3 * (K + (K) + (K + (K)) + 1 + (K)) + 2), VV (.bool true), VV (.bool true)] := ⟨VV.lasts _, VV.lasts _, VV.lasts _, VG.lasts _ _ _ _, VV.lasts _, VC.lasts _ _, VV.lasts _, VV.lasts _, VV.lasts _, VV.lasts _, VV.lasts _, VG.lasts _ _ _ _, VV.lasts _, VC.lasts _ _, VV.lasts _, VV.lasts _, VV.lasts _, VV.lasts _, VV.lasts _, VV.lasts _, VG.lasts _ _ _ _, VV.lasts _, VC.lasts _ _, VC.lasts _ _, VV.lasts _, VV.lasts _, trivial⟩
    refine wp_region_kahn 26 83 [([], [9]), ([], [4]), ([], [5]), ([(1, 37), (2, 38)], []), ([], [3]), ([(3, 39), (4, 40)], []), ([(0, 36), (5, 41)], []), ([(6, 42)], []), ([], [9]), ([], [5]), ([], [3]), ([(9, 45), (10, 46)], []), ([], [4]), ([(11, 47), (12, 48)], []), ([(8, 44), (13, 49)], []), ([(7, 43), (14, 50)], []), ([(15, 51)], []), ([], [9]), ([], [4]), ([], [3]), ([(18, 54), (19, 55)], []), ([], [5]), ([(20, 56), (21, 57)], []), ([(22, 58)], []), ([(17, 53), (23, 59)], []), ([(16, 52), (24, 60)], [])]
      (fun u => Below w9.heap.size w9 u) (fun u u' => Below u.heap.size u u')
      (Sp [VV (.agg #[.bool v.s, .slice v.no v.nn v.nc, .slice v.eo v.en v.ec]), VV (.agg #[.bool b1.s, .slice b1.no b1.nn b1.nc, .slice b1.eo b1.en b1.ec, .bool b2.s, .slice b2.no b2.nn b2.nc, .slice b2.eo b2.en b2.ec, .bool b3.s, .slice b3.no b3.nn b3.nc, .slice b3.eo b3.en b3.ec]), VV (.agg #[.bool y1.s, .slice y1.no y1.nn y1.nc, .slice y1.eo y1.en y1.ec, .bool y2.s, .slice y2.no y2.nn y2.nc, .slice y2.eo y2.en y2.ec, .bool y3.s, .slice y3.no y3.nn y3.nc, .slice y3.eo y3.en y3.ec]), VG (qb2 * qy3 - qb3 * qy2) (qb3 * qy1 - qb1 * qy3) (qb1 * qy2 - qb2 * qy1) (K + (K) + (K + (K)) + 1), VV (.agg #[.bool a1.s, .slice a1.no a1.nn a1.nc, .slice a1.eo a1.en a1.ec, .bool a2.s, .slice a2.no a2.nn a2.nc, .slice a2.eo a2.en a2.ec, .bool a3.s, .slice a3.no a3.nn a3.nc, .slice a3.eo a3.en a3.ec]), VC ((qb2 * qy3 - qb3 * qy2) * qa1 + (qb3 * qy1 - qb1 * qy3) * qa2 + (qb1 * qy2 - qb2 * qy1) * qa3) (3 * (K + (K) + (K + (K)) + 1 + (K)) + 2), VV (.bool true), VV (.bool true), VV (.agg #[.bool v.s, .slice v.no v.nn v.nc, .slice v.eo v.en v.ec]), VV (.agg #[.bool y1.s, .slice y1.no y1.nn y1.nc, .slice y1.eo y1.en y1.ec, .bool y2.s, .slice y2.no y2.nn y2.nc, .slice y2.eo y2.en y2.ec, .bool y3.s, .slice y3.no y3.nn y3.nc, .slice y3.eo y3.en y3.ec]), VV (.agg #[.bool a1.s, .slice a1.no a1.nn a1.nc, .slice a1.eo a1.en a1.ec, .bool a2.s, .slice a2.no a2.nn a2.nc, .slice a2.eo a2.en a2.ec, .bool a3.s, .slice a3.no a3.nn a3.nc, .slice a3.eo a3.en a3.ec]), VG (qy2 * qa3 - qy3 * qa2) (qy3 * qa1 - qy1 * qa3) (qy1 * qa2 - qy2 * qa1) (K + (K) + (K + (K)) + 1), VV (.agg #[.bool b1.s, .slice b1.no b1.nn b1.nc, .slice b1.eo b1.en b1.ec, .bool b2.s, .slice b2.no b2.nn b2.nc, .slice b2.eo b2.en b2.ec, .bool b3.s, .slice b3.no b3.nn b3.nc, .slice b3.eo b3.en b3.ec]), VC ((qy2 * qa3 - qy3 * qa2) * qb1 + (qy3 * qa1 - qy1 * qa3) * qb2 + (qy1 * qa2 - qy2 * qa1) * qb3) (3 * (K + (K) + (K + (K)) + 1 + (K)) + 2), VV (.bool true), VV (.bool true), VV (.bool true), VV (.agg #[.bool v.s, .slice v.no v.nn v.nc, .slice v.eo v.en v.ec]), VV (.agg #[.bool b1.s, .slice b1.no b1.nn b1.nc, .slice b1.eo b1.en b1.ec, .bool b2.s, .slice b2.no b2.nn b2.nc, .slice b2.eo b2.en b2.ec, .bool b3.s, .slice b3.no b3.nn b3.nc, .slice b3.eo b3.en b3.ec]), VV (.agg #[.bool a1.s, .slice a1.no a1.nn a1.nc, .slice a1.eo a1.en a1.ec, .bool a2.s, .slice a2.no a2.nn a2.nc, .slice a2.eo a2.en a2.ec, .bool a3.s, .slice a3.no a3.nn a3.nc, .slice a3.eo a3.en a3.ec]), VG (qb2 * qa3 - qb3 * qa2) (qb3 * qa1 - qb1 * qa3) (qb1 * qa2 - qb2 * qa1) (K + (K) + (K + (K)) + 1), VV (.agg #[.bool y1.s, .slice y1.no y1.nn y1.nc, .slice y1.eo y1.en y1.ec, .bool y2.s, .slice y2.no y2.nn y2.nc, .slice y2.eo y2.en y2.ec, .bool y3.s, .slice y3.no y3.nn y3.nc, .slice y3.eo y3.en y3.ec]), VC ((qb2 * qa3 - qb3 * qa2) * qy1 + (qb3 * qa1 - qb1 * qa3) * qy2 + (qb1 * qa2 - qb2 * qa1) * qy3) (3 * (K + (K) + (K + (K)) + 1 + (K)) + 2), VC (-((qb2 * qa3 - qb3 * qa2) * qy1 + (qb3 * qa1 - qb1 * qa3) * qy2 + (qb1 * qa2 - qb2 * qa1) * qy3)) (3 * (K + (K) + (K + (K)) + 1 + (K)) + 2), VV (.bool true), VV (.bool true)])
      (by kernel_rfl) rfl (by kernel_rfl) (Below.refl _ _).drew (fun k v u u' _ hg hs => Sp.lasts HLst k v u u' hg hs) ?_ ?_
    · clear HLst
      refine ⟨.inl ⟨by simp, fun ρ u hC hc hf hd ho => ?_⟩, .inl ⟨by simp, fun ρ u hC hc hf hd ho => ?_⟩, .inl ⟨by simp, fun ρ u hC hc hf hd ho => ?_⟩, .inl ⟨by simp, fun ρ u hC hc hf hd ho => ?_⟩, .inl ⟨by simp, fun ρ u hC hc hf hd ho => ?_⟩, .inl ⟨by simp, fun ρ u hC hc hf hd ho => ?_⟩, .inl ⟨by simp, fun ρ u hC hc hf hd ho => ?_⟩, .inl ⟨by simp, fun ρ u hC hc hf hd ho => ?_⟩, .inl ⟨guard_of rfl fun _ _ h => h, fun ρ u hC hc hf hd ho => ?_⟩, .inl ⟨guard_of rfl fun _ _ h => h, fun ρ u hC hc hf hd ho => ?_⟩, .inl ⟨guard_of rfl fun _ _ h => h, fun ρ u hC hc hf hd ho => ?_⟩, .inl ⟨guard_of rfl fun _ _ h => h, fun ρ u hC hc hf hd ho => ?_⟩, .inl ⟨guard_of rfl fun _ _ h => h, fun ρ u hC hc hf hd ho => ?_⟩, .inl ⟨guard_of rfl fun _ _ h => h, fun ρ u hC hc hf hd ho => ?_⟩, .inl ⟨guard_of rfl fun _ _ h => h, fun ρ u hC hc hf hd ho => ?_⟩, .inl ⟨by simp, fun ρ u hC hc hf hd ho => ?_⟩, .inl ⟨by simp, fun ρ u hC hc hf hd ho => ?_⟩, .inl ⟨guard_of rfl fun _ _ h => h, fun ρ u hC hc hf hd ho => ?_⟩, .inl ⟨guard_of rfl fun _ _ h => h, fun ρ u hC hc hf hd ho => ?_⟩, .inl ⟨guard_of rfl fun _ _ h => h, fun ρ u hC hc hf hd ho => ?_⟩, .inl ⟨guard_of rfl fun _ _ h => h, fun ρ u hC hc hf hd ho => ?_⟩, .inl ⟨guard_of rfl fun _ _ h => h, fun ρ u hC hc hf hd ho => ?_⟩, .inl ⟨guard_of rfl fun _ _ h => h, fun ρ u hC hc hf hd ho => ?_⟩, .inl ⟨guard_of rfl fun _ _ h => h, fun ρ u hC hc hf hd ho => ?_⟩, .inl ⟨guard_of rfl fun _ _ h => h, fun ρ u hC hc hf hd ho => ?_⟩, .inl ⟨by simp, fun ρ u hC hc hf hd ho => ?_⟩, trivial⟩
      · have e9 : ρ (.tmp 9) = .pointer (some ⟨gv, 0, none⟩) := ho 9 (by simp)
        obtain ⟨c0, c1, c2⟩ := (xv.later hC).cells
        refine Goes.pure (.agg #[.bool v.s, .slice v.no v.nn v.nc, .slice v.eo v.en v.ec]) ?_ ⟨hC, Below.refl _ _, rfl⟩
        unfold Goes
        go_simp
      · have e4 : ρ (.tmp 4) = .pointer (some ⟨gb, 0, none⟩) := ho 4 (by simp)
        obtain ⟨c0, c1, c2⟩ := (xb.later hC).c0
        obtain ⟨c3, c4, c5⟩ := (xb.later hC).c1
        obtain ⟨c6, c7, c8⟩ := (xb.later hC).c2
        refine Goes.pure (.agg #[.bool b1.s, .slice b1.no b1.nn b1.nc, .slice b1.eo b1.en b1.ec, .bool b2.s, .slice b2.no b2.nn b2.nc, .slice b2.eo b2.en b2.ec, .bool b3.s, .slice b3.no b3.nn b3.nc, .slice b3.eo b3.en b3.ec]) ?_ ⟨hC, Below.refl _ _, rfl⟩
        unfold Goes
        go_simp
      · have e5 : ρ (.tmp 5) = .pointer (some ⟨gy, 0, none⟩) := ho 5 (by simp)
        obtain ⟨c0, c1, c2⟩ := (xy.later hC).c0
        obtain ⟨c3, c4, c5⟩ := (xy.later hC).c1
        obtain ⟨c6, c7, c8⟩ := (xy.later hC).c2
        refine Goes.pure (.agg #[.bool y1.s, .slice y1.no y1.nn y1.nc, .slice y1.eo y1.en y1.ec, .bool y2.s, .slice y2.no y2.nn y2.nc, .slice y2.eo y2.en y2.ec, .bool y3.s, .slice y3.no y3.nn y3.nc, .slice y3.eo y3.en y3.ec]) ?_ ⟨hC, Below.refl _ _, rfl⟩
        unfold Goes
        go_simp
      · have e37 : ρ (.tmp 37) = .agg #[.bool b1.s, .slice b1.no b1.nn b1.nc, .slice b1.eo b1.en b1.ec, .bool b2.s, .slice b2.no b2.nn b2.nc, .slice b2.eo b2.en b2.ec, .bool b3.s, .slice b3.no b3.nn b3.nc, .slice b3.eo b3.en b3.ec] := hd (1, 37) (by simp)
        have e38 : ρ (.tmp 38) = .agg #[.bool y1.s, .slice y1.no y1.nn y1.nc, .slice y1.eo y1.en y1.ec, .bool y2.s, .slice y2.no y2.nn y2.nc, .slice y2.eo y2.en y2.ec, .bool y3.s, .slice y3.no y3.nn y3.nc, .slice y3.eo y3.en y3.ec] := hd (2, 38) (by simp)
        refine Goes.call 19 #[.agg #[.bool b1.s, .slice b1.no b1.nn b1.nc, .slice b1.eo b1.en b1.ec, .bool b2.s, .slice b2.no b2.nn b2.nc, .slice b2.eo b2.en b2.ec, .bool b3.s, .slice b3.no b3.nn b3.nc, .slice b3.eo b3.en b3.ec], .agg #[.bool y1.s, .slice y1.no y1.nn y1.nc, .slice y1.eo y1.en y1.ec, .bool y2.s, .slice y2.no y2.nn y2.nc, .slice y2.eo y2.en y2.ec, .bool y3.s, .slice y3.no y3.nn y3.nc, .slice y3.eo y3.en y3.ec]] (by go_simp) ?_
        refine Calls.mono (vcross_k (hb.later hC) (hy.later hC) (by omega) (by omega) (by omega)) ?_
        rintro e u' ⟨ra, rb, rc, rfl, cv, lb⟩
        exact ⟨_, rfl, hC.trans (lb.mono hC.size), lb, ⟨ra, rb, rc, rfl, cv⟩⟩
      · have e3 : ρ (.tmp 3) = .pointer (some ⟨ga, 0, none⟩) := ho 3 (by simp)
        obtain ⟨c0, c1, c2⟩ := (xa.later hC).c0
        obtain ⟨c3, c4, c5⟩ := (xa.later hC).c1
        obtain ⟨c6, c7, c8⟩ := (xa.later hC).c2
        refine Goes.pure (.agg #[.bool a1.s, .slice a1.no a1.nn a1.nc, .slice a1.eo a1.en a1.ec, .bool a2.s, .slice a2.no a2.nn a2.nc, .slice a2.eo a2.en a2.ec, .bool a3.s, .slice a3.no a3.nn a3.nc, .slice a3.eo a3.en a3.ec]) ?_ ⟨hC, Below.refl _ _, rfl⟩
        unfold Goes
        go_simp
      · obtain ⟨ra39, rb39, rc39, e39, k39⟩ : VG (qb2 * qy3 - qb3 * qy2) (qb3 * qy1 - qb1 * qy3) (qb1 * qy2 - qb2 * qy1) (K + (K) + (K + (K)) + 1) (ρ (.tmp 39)) u := hd (3, 39) (by simp)
        have e40 : ρ (.tmp 40) = .agg #[.bool a1.s, .slice a1.no a1.nn a1.nc, .slice a1.eo a1.en a1.ec, .bool a2.s, .slice a2.no a2.nn a2.nc, .slice a2.eo a2.en a2.ec, .bool a3.s, .slice a3.no a3.nn a3.nc, .slice a3.eo a3.en a3.ec] := hd (4, 40) (by simp)
        refine Goes.call 17 #[.agg #[.bool ra39.s, .slice ra39.no ra39.nn ra39.nc, .slice ra39.eo ra39.en ra39.ec, .bool rb39.s, .slice rb39.no rb39.nn rb39.nc, .slice rb39.eo rb39.en rb39.ec, .bool rc39.s, .slice rc39.no rc39.nn rc39.nc, .slice rc39.eo rc39.en rc39.ec], .agg #[.bool a1.s, .slice a1.no a1.nn a1.nc, .slice a1.eo a1.en a1.ec, .bool a2.s, .slice a2.no a2.nn a2.nc, .slice a2.eo a2.en a2.ec, .bool a3.s, .slice a3.no a3.nn a3.nc, .slice a3.eo a3.en a3.ec]] (by go_simp) ?_
        refine Calls.mono (vdot_k (k39.rd) (ha.later hC) (by omega) (by omega) (by omega)) ?_
        rintro e u' ⟨s1, no1, nn1, nc1, eo1, en1, ec1, rfl, cq, lb⟩
        exact ⟨_, rfl, hC.trans (lb.mono hC.size), lb, ⟨s1, no1, nn1, nc1, eo1, en1, ec1, rfl, cq⟩⟩
      · have e36 : ρ (.tmp 36) = .agg #[.bool v.s, .slice v.no v.nn v.nc, .slice v.eo v.en v.ec] := hd (0, 36) (by simp)
        obtain ⟨s41, no41, nn41, nc41, eo41, en41, ec41, e41, k41⟩ : VC ((qb2 * qy3 - qb3 * qy2) * qa1 + (qb3 * qy1 - qb1 * qy3) * qa2 + (qb1 * qy2 - qb2 * qy1) * qa3) (3 * (K + (K) + (K + (K)) + 1 + (K)) + 2) (ρ (.tmp 41)) u := hd (5, 41) (by simp)
        refine Goes.call 16 #[.agg #[.bool v.s, .slice v.no v.nn v.nc, .slice v.eo v.en v.ec], .agg #[.bool s41, .slice no41 nn41 nc41, .slice eo41 en41 ec41]] (by go_simp) ?_
        refine Calls.mono (is3_any u v.s v.no v.nn v.nc v.eo v.en v.ec s41 no41 nn41 nc41 eo41 en41 ec41 _ _ _ _ (cv.later hC).num (cv.later hC).den k41.num k41.den (by have := (cv.later hC).ln; omega) (by have := (cv.later hC).ld; omega) (by have := k41.ln; omega) (by have := k41.ld; omega)) ?_
        rintro e u' ⟨r, rfl, HR, lb⟩
        exact ⟨_, rfl, hC.trans (lb.mono hC.size), lb, by rw [HR.out.2 (cq_same (cv.later hC) k41 (by grind))]; rfl⟩
      · have e42 : ρ (.tmp 42) = .bool true := hd (6, 42) (by simp)
        refine Goes.pure (.bool true) ?_ ⟨hC, Below.refl _ _, rfl⟩
        unfold Goes
        go_simp
      · have e9 : ρ (.tmp 9) = .pointer (some ⟨gv, 0, none⟩) := ho 9 (by simp)
        obtain ⟨c0, c1, c2⟩ := (xv.later hC).cells
        refine Goes.pure (.agg #[.bool v.s, .slice v.no v.nn v.nc, .slice v.eo v.en v.ec]) ?_ ⟨hC, Below.refl _ _, rfl⟩
        unfold Goes
        go_simp
      · have e5 : ρ (.tmp 5) = .pointer (some ⟨gy, 0, none⟩) := ho 5 (by simp)
        obtain ⟨c0, c1, c2⟩ := (xy.later hC).c0
        obtain ⟨c3, c4, c5⟩ := (xy.later hC).c1
        obtain ⟨c6, c7, c8⟩ := (xy.later hC).c2
        refine Goes.pure (.agg #[.bool y1.s, .slice y1.no y1.nn y1.nc, .slice y1.eo y1.en y1.ec, .bool y2.s, .slice y2.no y2.nn y2.nc, .slice y2.eo y2.en y2.ec, .bool y3.s, .slice y3.no y3.nn y3.nc, .slice y3.eo y3.en y3.ec]) ?_ ⟨hC, Below.refl _ _, rfl⟩
        unfold Goes
        go_simp
      · have e3 : ρ (.tmp 3) = .pointer (some ⟨ga, 0, none⟩) := ho 3 (by simp)
        obtain ⟨c0, c1, c2⟩ := (xa.later hC).c0
        obtain ⟨c3, c4, c5⟩ := (xa.later hC).c1
        obtain ⟨c6, c7, c8⟩ := (xa.later hC).c2
        refine Goes.pure (.agg #[.bool a1.s, .slice a1.no a1.nn a1.nc, .slice a1.eo a1.en a1.ec, .bool a2.s, .slice a2.no a2.nn a2.nc, .slice a2.eo a2.en a2.ec, .bool a3.s, .slice a3.no a3.nn a3.nc, .slice a3.eo a3.en a3.ec]) ?_ ⟨hC, Below.refl _ _, rfl⟩
        unfold Goes
        go_simp
      · have e45 : ρ (.tmp 45) = .agg #[.bool y1.s, .slice y1.no y1.nn y1.nc, .slice y1.eo y1.en y1.ec, .bool y2.s, .slice y2.no y2.nn y2.nc, .slice y2.eo y2.en y2.ec, .bool y3.s, .slice y3.no y3.nn y3.nc, .slice y3.eo y3.en y3.ec] := hd (9, 45) (by simp)
        have e46 : ρ (.tmp 46) = .agg #[.bool a1.s, .slice a1.no a1.nn a1.nc, .slice a1.eo a1.en a1.ec, .bool a2.s, .slice a2.no a2.nn a2.nc, .slice a2.eo a2.en a2.ec, .bool a3.s, .slice a3.no a3.nn a3.nc, .slice a3.eo a3.en a3.ec] := hd (10, 46) (by simp)
        refine Goes.call 19 #[.agg #[.bool y1.s, .slice y1.no y1.nn y1.nc, .slice y1.eo y1.en y1.ec, .bool y2.s, .slice y2.no y2.nn y2.nc, .slice y2.eo y2.en y2.ec, .bool y3.s, .slice y3.no y3.nn y3.nc, .slice y3.eo y3.en y3.ec], .agg #[.bool a1.s, .slice a1.no a1.nn a1.nc, .slice a1.eo a1.en a1.ec, .bool a2.s, .slice a2.no a2.nn a2.nc, .slice a2.eo a2.en a2.ec, .bool a3.s, .slice a3.no a3.nn a3.nc, .slice a3.eo a3.en a3.ec]] (by go_simp) ?_
        refine Calls.mono (vcross_k (hy.later hC) (ha.later hC) (by omega) (by omega) (by omega)) ?_
        rintro e u' ⟨ra, rb, rc, rfl, cv, lb⟩
        exact ⟨_, rfl, hC.trans (lb.mono hC.size), lb, ⟨ra, rb, rc, rfl, cv⟩⟩
      · have e4 : ρ (.tmp 4) = .pointer (some ⟨gb, 0, none⟩) := ho 4 (by simp)
        obtain ⟨c0, c1, c2⟩ := (xb.later hC).c0
        obtain ⟨c3, c4, c5⟩ := (xb.later hC).c1
        obtain ⟨c6, c7, c8⟩ := (xb.later hC).c2
        refine Goes.pure (.agg #[.bool b1.s, .slice b1.no b1.nn b1.nc, .slice b1.eo b1.en b1.ec, .bool b2.s, .slice b2.no b2.nn b2.nc, .slice b2.eo b2.en b2.ec, .bool b3.s, .slice b3.no b3.nn b3.nc, .slice b3.eo b3.en b3.ec]) ?_ ⟨hC, Below.refl _ _, rfl⟩
        unfold Goes
        go_simp
      · obtain ⟨ra47, rb47, rc47, e47, k47⟩ : VG (qy2 * qa3 - qy3 * qa2) (qy3 * qa1 - qy1 * qa3) (qy1 * qa2 - qy2 * qa1) (K + (K) + (K + (K)) + 1) (ρ (.tmp 47)) u := hd (11, 47) (by simp)
        have e48 : ρ (.tmp 48) = .agg #[.bool b1.s, .slice b1.no b1.nn b1.nc, .slice b1.eo b1.en b1.ec, .bool b2.s, .slice b2.no b2.nn b2.nc, .slice b2.eo b2.en b2.ec, .bool b3.s, .slice b3.no b3.nn b3.nc, .slice b3.eo b3.en b3.ec] := hd (12, 48) (by simp)
        refine Goes.call 17 #[.agg #[.bool ra47.s, .slice ra47.no ra47.nn ra47.nc, .slice ra47.eo ra47.en ra47.ec, .bool rb47.s, .slice rb47.no rb47.nn rb47.nc, .slice rb47.eo rb47.en rb47.ec, .bool rc47.s, .slice rc47.no rc47.nn rc47.nc, .slice rc47.eo rc47.en rc47.ec], .agg #[.bool b1.s, .slice b1.no b1.nn b1.nc, .slice b1.eo b1.en b1.ec, .bool b2.s, .slice b2.no b2.nn b2.nc, .slice b2.eo b2.en b2.ec, .bool b3.s, .slice b3.no b3.nn b3.nc, .slice b3.eo b3.en b3.ec]] (by go_simp) ?_
        refine Calls.mono (vdot_k (k47.rd) (hb.later hC) (by omega) (by omega) (by omega)) ?_
        rintro e u' ⟨s1, no1, nn1, nc1, eo1, en1, ec1, rfl, cq, lb⟩
        exact ⟨_, rfl, hC.trans (lb.mono hC.size), lb, ⟨s1, no1, nn1, nc1, eo1, en1, ec1, rfl, cq⟩⟩
      · have e44 : ρ (.tmp 44) = .agg #[.bool v.s, .slice v.no v.nn v.nc, .slice v.eo v.en v.ec] := hd (8, 44) (by simp)
        obtain ⟨s49, no49, nn49, nc49, eo49, en49, ec49, e49, k49⟩ : VC ((qy2 * qa3 - qy3 * qa2) * qb1 + (qy3 * qa1 - qy1 * qa3) * qb2 + (qy1 * qa2 - qy2 * qa1) * qb3) (3 * (K + (K) + (K + (K)) + 1 + (K)) + 2) (ρ (.tmp 49)) u := hd (13, 49) (by simp)
        refine Goes.call 16 #[.agg #[.bool v.s, .slice v.no v.nn v.nc, .slice v.eo v.en v.ec], .agg #[.bool s49, .slice no49 nn49 nc49, .slice eo49 en49 ec49]] (by go_simp) ?_
        refine Calls.mono (is3_any u v.s v.no v.nn v.nc v.eo v.en v.ec s49 no49 nn49 nc49 eo49 en49 ec49 _ _ _ _ (cv.later hC).num (cv.later hC).den k49.num k49.den (by have := (cv.later hC).ln; omega) (by have := (cv.later hC).ld; omega) (by have := k49.ln; omega) (by have := k49.ld; omega)) ?_
        rintro e u' ⟨r, rfl, HR, lb⟩
        exact ⟨_, rfl, hC.trans (lb.mono hC.size), lb, by rw [HR.out.2 (cq_same (cv.later hC) k49 (by grind))]; rfl⟩
      · have e43 : ρ (.tmp 43) = .bool true := hd (7, 43) (by simp)
        have e50 : ρ (.tmp 50) = .bool true := hd (14, 50) (by simp)
        refine Goes.pure (.bool true) ?_ ⟨hC, Below.refl _ _, rfl⟩
        unfold Goes
        go_simp
      · have e51 : ρ (.tmp 51) = .bool true := hd (15, 51) (by simp)
        refine Goes.pure (.bool true) ?_ ⟨hC, Below.refl _ _, rfl⟩
        unfold Goes
        go_simp
      · have e9 : ρ (.tmp 9) = .pointer (some ⟨gv, 0, none⟩) := ho 9 (by simp)
        obtain ⟨c0, c1, c2⟩ := (xv.later hC).cells
        refine Goes.pure (.agg #[.bool v.s, .slice v.no v.nn v.nc, .slice v.eo v.en v.ec]) ?_ ⟨hC, Below.refl _ _, rfl⟩
        unfold Goes
        go_simp
      · have e4 : ρ (.tmp 4) = .pointer (some ⟨gb, 0, none⟩) := ho 4 (by simp)
        obtain ⟨c0, c1, c2⟩ := (xb.later hC).c0
        obtain ⟨c3, c4, c5⟩ := (xb.later hC).c1
        obtain ⟨c6, c7, c8⟩ := (xb.later hC).c2
        refine Goes.pure (.agg #[.bool b1.s, .slice b1.no b1.nn b1.nc, .slice b1.eo b1.en b1.ec, .bool b2.s, .slice b2.no b2.nn b2.nc, .slice b2.eo b2.en b2.ec, .bool b3.s, .slice b3.no b3.nn b3.nc, .slice b3.eo b3.en b3.ec]) ?_ ⟨hC, Below.refl _ _, rfl⟩
        unfold Goes
        go_simp
      · have e3 : ρ (.tmp 3) = .pointer (some ⟨ga, 0, none⟩) := ho 3 (by simp)
        obtain ⟨c0, c1, c2⟩ := (xa.later hC).c0
        obtain ⟨c3, c4, c5⟩ := (xa.later hC).c1
        obtain ⟨c6, c7, c8⟩ := (xa.later hC).c2
        refine Goes.pure (.agg #[.bool a1.s, .slice a1.no a1.nn a1.nc, .slice a1.eo a1.en a1.ec, .bool a2.s, .slice a2.no a2.nn a2.nc, .slice a2.eo a2.en a2.ec, .bool a3.s, .slice a3.no a3.nn a3.nc, .slice a3.eo a3.en a3.ec]) ?_ ⟨hC, Below.refl _ _, rfl⟩
        unfold Goes
        go_simp
      · have e54 : ρ (.tmp 54) = .agg #[.bool b1.s, .slice b1.no b1.nn b1.nc, .slice b1.eo b1.en b1.ec, .bool b2.s, .slice b2.no b2.nn b2.nc, .slice b2.eo b2.en b2.ec, .bool b3.s, .slice b3.no b3.nn b3.nc, .slice b3.eo b3.en b3.ec] := hd (18, 54) (by simp)
        have e55 : ρ (.tmp 55) = .agg #[.bool a1.s, .slice a1.no a1.nn a1.nc, .slice a1.eo a1.en a1.ec, .bool a2.s, .slice a2.no a2.nn a2.nc, .slice a2.eo a2.en a2.ec, .bool a3.s, .slice a3.no a3.nn a3.nc, .slice a3.eo a3.en a3.ec] := hd (19, 55) (by simp)
        refine Goes.call 19 #[.agg #[.bool b1.s, .slice b1.no b1.nn b1.nc, .slice b1.eo b1.en b1.ec, .bool b2.s, .slice b2.no b2.nn b2.nc, .slice b2.eo b2.en b2.ec, .bool b3.s, .slice b3.no b3.nn b3.nc, .slice b3.eo b3.en b3.ec], .agg #[.bool a1.s, .slice a1.no a1.nn a1.nc, .slice a1.eo a1.en a1.ec, .bool a2.s, .slice a2.no a2.nn a2.nc, .slice a2.eo a2.en a2.ec, .bool a3.s, .slice a3.no a3.nn a3.nc, .slice a3.eo a3.en a3.ec]] (by go_simp) ?_
        refine Calls.mono (vcross_k (hb.later hC) (ha.later hC) (by omega) (by omega) (by omega)) ?_
        rintro e u' ⟨ra, rb, rc, rfl, cv, lb⟩
        exact ⟨_, rfl, hC.trans (lb.mono hC.size), lb, ⟨ra, rb, rc, rfl, cv⟩⟩
      · have e5 : ρ (.tmp 5) = .pointer (some ⟨gy, 0, none⟩) := ho 5 (by simp)
        obtain ⟨c0, c1, c2⟩ := (xy.later hC).c0
        obtain ⟨c3, c4, c5⟩ := (xy.later hC).c1
        obtain ⟨c6, c7, c8⟩ := (xy.later hC).c2
        refine Goes.pure (.agg #[.bool y1.s, .slice y1.no y1.nn y1.nc, .slice y1.eo y1.en y1.ec, .bool y2.s, .slice y2.no y2.nn y2.nc, .slice y2.eo y2.en y2.ec, .bool y3.s, .slice y3.no y3.nn y3.nc, .slice y3.eo y3.en y3.ec]) ?_ ⟨hC, Below.refl _ _, rfl⟩
        unfold Goes
        go_simp
      · obtain ⟨ra56, rb56, rc56, e56, k56⟩ : VG (qb2 * qa3 - qb3 * qa2) (qb3 * qa1 - qb1 * qa3) (qb1 * qa2 - qb2 * qa1) (K + (K) + (K + (K)) + 1) (ρ (.tmp 56)) u := hd (20, 56) (by simp)
        have e57 : ρ (.tmp 57) = .agg #[.bool y1.s, .slice y1.no y1.nn y1.nc, .slice y1.eo y1.en y1.ec, .bool y2.s, .slice y2.no y2.nn y2.nc, .slice y2.eo y2.en y2.ec, .bool y3.s, .slice y3.no y3.nn y3.nc, .slice y3.eo y3.en y3.ec] := hd (21, 57) (by simp)
        refine Goes.call 17 #[.agg #[.bool ra56.s, .slice ra56.no ra56.nn ra56.nc, .slice ra56.eo ra56.en ra56.ec, .bool rb56.s, .slice rb56.no rb56.nn rb56.nc, .slice rb56.eo rb56.en rb56.ec, .bool rc56.s, .slice rc56.no rc56.nn rc56.nc, .slice rc56.eo rc56.en rc56.ec], .agg #[.bool y1.s, .slice y1.no y1.nn y1.nc, .slice y1.eo y1.en y1.ec, .bool y2.s, .slice y2.no y2.nn y2.nc, .slice y2.eo y2.en y2.ec, .bool y3.s, .slice y3.no y3.nn y3.nc, .slice y3.eo y3.en y3.ec]] (by go_simp) ?_
        refine Calls.mono (vdot_k (k56.rd) (hy.later hC) (by omega) (by omega) (by omega)) ?_
        rintro e u' ⟨s1, no1, nn1, nc1, eo1, en1, ec1, rfl, cq, lb⟩
        exact ⟨_, rfl, hC.trans (lb.mono hC.size), lb, ⟨s1, no1, nn1, nc1, eo1, en1, ec1, rfl, cq⟩⟩
      · obtain ⟨s58, no58, nn58, nc58, eo58, en58, ec58, e58, k58⟩ : VC ((qb2 * qa3 - qb3 * qa2) * qy1 + (qb3 * qa1 - qb1 * qa3) * qy2 + (qb1 * qa2 - qb2 * qa1) * qy3) (3 * (K + (K) + (K + (K)) + 1 + (K)) + 2) (ρ (.tmp 58)) u := hd (22, 58) (by simp)
        refine Goes.call 27 #[.agg #[.bool s58, .slice no58 nn58 nc58, .slice eo58 en58 ec58]] (by go_simp) ?_
        refine Calls.mono (ratNeg_k k58.rd (by omega) (by omega)) ?_
        rintro e u' ⟨s1, no1, nn1, nc1, eo1, en1, ec1, rfl, cq, lb⟩
        exact ⟨_, rfl, hC.trans (lb.mono hC.size), lb, ⟨s1, no1, nn1, nc1, eo1, en1, ec1, rfl, cq⟩⟩
      · have e53 : ρ (.tmp 53) = .agg #[.bool v.s, .slice v.no v.nn v.nc, .slice v.eo v.en v.ec] := hd (17, 53) (by simp)
        obtain ⟨s59, no59, nn59, nc59, eo59, en59, ec59, e59, k59⟩ : VC (-((qb2 * qa3 - qb3 * qa2) * qy1 + (qb3 * qa1 - qb1 * qa3) * qy2 + (qb1 * qa2 - qb2 * qa1) * qy3)) (3 * (K + (K) + (K + (K)) + 1 + (K)) + 2) (ρ (.tmp 59)) u := hd (23, 59) (by simp)
        refine Goes.call 16 #[.agg #[.bool v.s, .slice v.no v.nn v.nc, .slice v.eo v.en v.ec], .agg #[.bool s59, .slice no59 nn59 nc59, .slice eo59 en59 ec59]] (by go_simp) ?_
        refine Calls.mono (is3_any u v.s v.no v.nn v.nc v.eo v.en v.ec s59 no59 nn59 nc59 eo59 en59 ec59 _ _ _ _ (cv.later hC).num (cv.later hC).den k59.num k59.den (by have := (cv.later hC).ln; omega) (by have := (cv.later hC).ld; omega) (by have := k59.ln; omega) (by have := k59.ld; omega)) ?_
        rintro e u' ⟨r, rfl, HR, lb⟩
        exact ⟨_, rfl, hC.trans (lb.mono hC.size), lb, by rw [HR.out.2 (cq_same (cv.later hC) k59 (by grind))]; rfl⟩
      · have e52 : ρ (.tmp 52) = .bool true := hd (16, 52) (by simp)
        have e60 : ρ (.tmp 60) = .bool true := hd (24, 60) (by simp)
        refine Goes.pure (.bool true) ?_ ⟨hC, Below.refl _ _, rfl⟩
        unfold Goes
        go_simp
    · intro vs u lb hv
      have eR : vs 25 = .bool true := hv 25 (by omega)
      clear hv
      simp only [puts, List.take, List.drop, Act.put, List.setIfInBounds_toArray, List.set_cons_succ, List.set_cons_zero, Nat.reduceAdd, eR]
      clear eR
      go_wp2
      obtain ⟨w10, rfl⟩ : ∃ w10, w10 = u := ⟨_, rfl⟩
      replace ha := ha.later lb
      replace hb := hb.later lb
      replace hy := hy.later lb
      replace xa := xa.later lb
      replace xb := xb.later lb
      replace xy := xy.later lb
      replace xx2 := xx2.later lb
      replace xd2 := xd2.later lb
      replace cx2 := cx2.later lb
      replace cd2 := cd2.later lb
      replace cv := cv.later lb
      replace xv := xv.later lb
      have B10 := B9.trans (lb.mono B9.size)
      clear B9 lb
      have HLst : Lst [VV (.bool true), VV (.bool true), VV (.agg #[.bool d.s, .slice d.no d.nn d.nc, .slice d.eo d.en d.ec]), VV (.agg #[.bool d.s, .slice d.no d.nn d.nc, .slice d.eo d.en d.ec]), VL [qa1 * qb1 + qa2 * qb2 + qa3 * qb3, qa1 * qb1 + qa2 * qb2 + qa3 * qb3] (3 * (K + (K)) + 2), VC ((qa1 * qb1 + qa2 * qb2 + qa3 * qb3) * (qa1 * qb1 + qa2 * qb2 + qa3 * qb3)) (2 * (3 * (K + (K)) + 2 + 1) + 1), VV (.agg #[.bool x1.s, .slice x1.no x1.nn x1.nc, .slice x1.eo x1.en x1.ec, .bool x2.s, .slice x2.no x2.nn x2.nc, .slice x2.eo x2.en x2.ec, .bool x3.s, .slice x3.no x3.nn x3.nc, .slice x3.eo x3.en x3.ec]), VV (.agg #[.bool x1.s, .slice x1.no x1.nn x1.nc, .slice x1.eo x1.en x1.ec, .bool x2.s, .slice x2.no x2.nn x2.nc, .slice x2.eo x2.en x2.ec, .bool x3.s, .slice x3.no x3.nn x3.nc, .slice x3.eo x3.en x3.ec]), VC ((qa2 * qb3 - qa3 * qb2) * (qa2 * qb3 - qa3 * qb2) + (qa3 * qb1 - qa1 * qb3) * (qa3 * qb1 - qa1 * qb3) + (qa1 * qb2 - qa2 * qb1) * (qa1 * qb2 - qa2 * qb1)) (3 * (K + (K) + (K + (K)) + 1 + (K + (K) + (K + (K)) + 1)) + 2), VL [(qa1 * qb1 + qa2 * qb2 + qa3 * qb3) * (qa1 * qb1 + qa2 * qb2 + qa3 * qb3), (qa2 * qb3 - qa3 * qb2) * (qa2 * qb3 - qa3 * qb2) + (qa3 * qb1 - qa1 * qb3) * (qa3 * qb1 - qa1 * qb3) + (qa1 * qb2 - qa2 * qb1) * (qa1 * qb2 - qa2 * qb1)] (2 * (3 * (K + (K)) + 2 + 1) + 1 + 3 * (K + (K) + (K + (K)) + 1 + (K + (K) + (K + (K)) + 1)) + 2), VC (((qa1 * qb1 + qa2 * qb2 + qa3 * qb3) * (qa1 * qb1 + qa2 * qb2 + qa3 * qb3)) + ((qa2 * qb3 - qa3 * qb2) * (qa2 * qb3 - qa3 * qb2) + (qa3 * qb1 - qa1 * qb3) * (qa3 * qb1 - qa1 * qb3) + (qa1 * qb2 - qa2 * qb1) * (qa1 * qb2 - qa2 * qb1))) (2 * (2 * (3 * (K + (K)) + 2 + 1) + 1 + 3 * (K + (K) + (K + (K)) + 1 + (K + (K) + (K + (K)) + 1)) + 2 + 1) + 1), VV (.agg #[.bool a1.s, .slice a1.no a1.nn a1.nc, .slice a1.eo a1.en a1.ec, .bool a2.s, .slice a2.no a2.nn a2.nc, .slice a2.eo a2.en a2.ec, .bool a3.s, .slice a3.no a3.nn a3.nc, .slice a3.eo a3.en a3.ec]), VV (.agg #[.bool a1.s, .slice a1.no a1.nn a1.nc, .slice a1.eo a1.en a1.ec, .bool a2.s, .slice a2.no a2.nn a2.nc, .slice a2.eo a2.en a2.ec, .bool a3.s, .slice a3.no a3.nn a3.nc, .slice a3.eo a3.en a3.ec]), VC (qa1 * qa1 + qa2 * qa2 + qa3 * qa3) (3 * (K + (K)) + 2), VV (.agg #[.bool b1.s, .slice b1.no b1.nn b1.nc, .slice b1.eo b1.en b1.ec, .bool b2.s, .slice b2.no b2.nn b2.nc, .slice b2.eo b2.en b2.ec, .bool b3.s, .slice b3.no b3.nn b3.nc, .slice b3.eo b3.en b3.ec]), VV (.agg #[.bool b1.s, .slice b1.no b1.nn b1.nc, .slice b1.eo b1.en b1.ec, .bool b2.s, .slice b2.no b2.nn b2.nc, .slice b2.eo b2.en b2.ec, .bool b3.s, .slice b3.no b3.nn b3.nc, .slice b3.eo b3.en b3.ec]), VC (qb1 * qb1 + qb2 * qb2 + qb3 * qb3) (3 * (K + (K)) + 2), VL [qa1 * qa1 + qa2 * qa2 + qa3 * qa3, qb1 * qb1 + qb2 * qb2 + qb3 * qb3] (3 * (K + (K)) + 2), VC ((qa1 * qa1 + qa2 * qa2 + qa3 * qa3) * (qb1 * qb1 + qb2 * qb2 + qb3 * qb3)) (2 * (3 * (K + (K)) + 2 + 1) + 1), VV (.bool true), VV (.bool true)] := ⟨VV.lasts _, VV.lasts _, VV.lasts _, VV.lasts _, VL.lasts _ _, VC.lasts _ _, VV.lasts _, VV.lasts _, VC.lasts _ _, VL.lasts _ _, VC.lasts _ _, VV.lasts _, VV.lasts _, VC.lasts _ _, VV.lasts _, VV.lasts _, VC.lasts _ _, VL.lasts _ _, VC.lasts _ _, VV.lasts _, VV.lasts _, trivial⟩
      refine wp_region_kahn 21 83 [([], [10]), ([(0, 62)], []), ([], [8]), ([], [8]), ([(2, 64), (3, 65)], []), ([(4, 66)], []), ([], [7]), ([], [7]), ([(6, 68), (7, 69)], []), ([(5, 67), (8, 70)], []), ([(9, 71)], []), ([], [3]), ([], [3]), ([(11, 73), (12, 74)], []), ([], [4]), ([], [4]), ([(14, 76), (15, 77)], []), ([(13, 75), (16, 78)], []), ([(17, 79)], []), ([(10, 72), (18, 80)], []), ([(1, 63), (19, 81)], [])]
        (fun u => Below w10.heap.size w10 u) (fun u u' => Below u.heap.size u u')
        (Sp [VV (.bool true), VV (.bool true), VV (.agg #[.bool d.s, .slice d.no d.nn d.nc, .slice d.eo d.en d.ec]), VV (.agg #[.bool d.s, .slice d.no d.nn d.nc, .slice d.eo d.en d.ec]), VL [qa1 * qb1 + qa2 * qb2 + qa3 * qb3, qa1 * qb1 + qa2 * qb2 + qa3 * qb3] (3 * (K + (K)) + 2), VC ((qa1 * qb1 + qa2 * qb2 + qa3 * qb3) * (qa1 * qb1 + qa2 * qb2 + qa3 * qb3)) (2 * (3 * (K + (K)) + 2 + 1) + 1), VV (.agg #[.bool x1.s, .slice x1.no x1.nn x1.nc, .slice x1.eo x1.en x1.ec, .bool x2.s, .slice x2.no x2.nn x2.nc, .slice x2.eo x2.en x2.ec, .bool x3.s, .slice x3.no x3.nn x3.nc, .slice x3.eo x3.en x3.ec]), VV (.agg #[.bool x1.s, .slice x1.no x1.nn x1.nc, .slice x1.eo x1.en x1.ec, .bool x2.s, .slice x2.no x2.nn x2.nc, .slice x2.eo x2.en x2.ec, .bool x3.s, .slice x3.no x3.nn x3.nc, .slice x3.eo x3.en x3.ec]), VC ((qa2 * qb3 - qa3 * qb2) * (qa2 * qb3 - qa3 * qb2) + (qa3 * qb1 - qa1 * qb3) * (qa3 * qb1 - qa1 * qb3) + (qa1 * qb2 - qa2 * qb1) * (qa1 * qb2 - qa2 * qb1)) (3 * (K + (K) + (K + (K)) + 1 + (K + (K) + (K + (K)) + 1)) + 2), VL [(qa1 * qb1 + qa2 * qb2 + qa3 * qb3) * (qa1 * qb1 + qa2 * qb2 + qa3 * qb3), (qa2 * qb3 - qa3 * qb2) * (qa2 * qb3 - qa3 * qb2) + (qa3 * qb1 - qa1 * qb3) * (qa3 * qb1 - qa1 * qb3) + (qa1 * qb2 - qa2 * qb1) * (qa1 * qb2 - qa2 * qb1)] (2 * (3 * (K + (K)) + 2 + 1) + 1 + 3 * (K + (K) + (K + (K)) + 1 + (K + (K) + (K + (K)) + 1)) + 2), VC (((qa1 * qb1 + qa2 * qb2 + qa3 * qb3) * (qa1 * qb1 + qa2 * qb2 + qa3 * qb3)) + ((qa2 * qb3 - qa3 * qb2) * (qa2 * qb3 - qa3 * qb2) + (qa3 * qb1 - qa1 * qb3) * (qa3 * qb1 - qa1 * qb3) + (qa1 * qb2 - qa2 * qb1) * (qa1 * qb2 - qa2 * qb1))) (2 * (2 * (3 * (K + (K)) + 2 + 1) + 1 + 3 * (K + (K) + (K + (K)) + 1 + (K + (K) + (K + (K)) + 1)) + 2 + 1) + 1), VV (.agg #[.bool a1.s, .slice a1.no a1.nn a1.nc, .slice a1.eo a1.en a1.ec, .bool a2.s, .slice a2.no a2.nn a2.nc, .slice a2.eo a2.en a2.ec, .bool a3.s, .slice a3.no a3.nn a3.nc, .slice a3.eo a3.en a3.ec]), VV (.agg #[.bool a1.s, .slice a1.no a1.nn a1.nc, .slice a1.eo a1.en a1.ec, .bool a2.s, .slice a2.no a2.nn a2.nc, .slice a2.eo a2.en a2.ec, .bool a3.s, .slice a3.no a3.nn a3.nc, .slice a3.eo a3.en a3.ec]), VC (qa1 * qa1 + qa2 * qa2 + qa3 * qa3) (3 * (K + (K)) + 2), VV (.agg #[.bool b1.s, .slice b1.no b1.nn b1.nc, .slice b1.eo b1.en b1.ec, .bool b2.s, .slice b2.no b2.nn b2.nc, .slice b2.eo b2.en b2.ec, .bool b3.s, .slice b3.no b3.nn b3.nc, .slice b3.eo b3.en b3.ec]), VV (.agg #[.bool b1.s, .slice b1.no b1.nn b1.nc, .slice b1.eo b1.en b1.ec, .bool b2.s, .slice b2.no b2.nn b2.nc, .slice b2.eo b2.en b2.ec, .bool b3.s, .slice b3.no b3.nn b3.nc, .slice b3.eo b3.en b3.ec]), VC (qb1 * qb1 + qb2 * qb2 + qb3 * qb3) (3 * (K + (K)) + 2), VL [qa1 * qa1 + qa2 * qa2 + qa3 * qa3, qb1 * qb1 + qb2 * qb2 + qb3 * qb3] (3 * (K + (K)) + 2), VC ((qa1 * qa1 + qa2 * qa2 + qa3 * qa3) * (qb1 * qb1 + qb2 * qb2 + qb3 * qb3)) (2 * (3 * (K + (K)) + 2 + 1) + 1), VV (.bool true), VV (.bool true)])
        (by kernel_rfl) rfl (by kernel_rfl) (Below.refl _ _).drew (fun k v u u' _ hg hs => Sp.lasts HLst k v u u' hg hs) ?_ ?_
      · clear HLst
        refine ⟨.inl ⟨by simp, fun ρ u hC hc hf hd ho => ?_⟩, .inl ⟨by simp, fun ρ u hC hc hf hd ho => ?_⟩, .inl ⟨guard_of rfl fun _ _ h => h, fun ρ u hC hc hf hd ho => ?_⟩, .inl ⟨guard_of rfl fun _ _ h => h, fun ρ u hC hc hf hd ho => ?_⟩, .inl ⟨guard_of rfl fun _ _ h => h, fun ρ u hC hc hf hd ho => ?_⟩, .inl ⟨guard_of rfl fun _ _ h => h, fun ρ u hC hc hf hd ho => ?_⟩, .inl ⟨guard_of rfl fun _ _ h => h, fun ρ u hC hc hf hd ho => ?_⟩, .inl ⟨guard_of rfl fun _ _ h => h, fun ρ u hC hc hf hd ho => ?_⟩, .inl ⟨guard_of rfl fun _ _ h => h, fun ρ u hC hc hf hd ho => ?_⟩, .inl ⟨guard_of rfl fun _ _ h => h, fun ρ u hC hc hf hd ho => ?_⟩, .inl ⟨guard_of rfl fun _ _ h => h, fun ρ u hC hc hf hd ho => ?_⟩, .inl ⟨guard_of rfl fun _ _ h => h, fun ρ u hC hc hf hd ho => ?_⟩, .inl ⟨guard_of rfl fun _ _ h => h, fun ρ u hC hc hf hd ho => ?_⟩, .inl ⟨guard_of rfl fun _ _ h => h, fun ρ u hC hc hf hd ho => ?_⟩, .inl ⟨guard_of rfl fun _ _ h => h, fun ρ u hC hc hf hd ho => ?_⟩, .inl ⟨guard_of rfl fun _ _ h => h, fun ρ u hC hc hf hd ho => ?_⟩, .inl ⟨guard_of rfl fun _ _ h => h, fun ρ u hC hc hf hd ho => ?_⟩, .inl ⟨guard_of rfl fun _ _ h => h, fun ρ u hC hc hf hd ho => ?_⟩, .inl ⟨guard_of rfl fun _ _ h => h, fun ρ u hC hc hf hd ho => ?_⟩, .inl ⟨guard_of rfl fun _ _ h => h, fun ρ u hC hc hf hd ho => ?_⟩, .inl ⟨by simp, fun ρ u hC hc hf hd ho => ?_⟩, trivial⟩
        · have e10 : ρ (.tmp 10) = .bool true := ho 10 (by simp)
          refine Goes.pure (.bool true) ?_ ⟨hC, Below.refl _ _, rfl⟩
          unfold Goes
          go_simp
        · have e62 : ρ (.tmp 62) = .bool true := hd (0, 62) (by simp)
          refine Goes.pure (.bool true) ?_ ⟨hC, Below.refl _ _, rfl⟩
          unfold Goes
          go_simp
        · have e8 : ρ (.tmp 8) = .pointer (some ⟨gd, 0, none⟩) := ho 8 (by simp)
          obtain ⟨c0, c1, c2⟩ := (xd2.later hC).cells
          refine Goes.pure (.agg #[.bool d.s, .slice d.no d.nn d.nc, .slice d.eo d.en d.ec]) ?_ ⟨hC, Below.refl _ _, rfl⟩
          unfold Goes
          go_simp
        · have e8 : ρ (.tmp 8) = .pointer (some ⟨gd, 0, none⟩) := ho 8 (by simp)
          obtain ⟨c0, c1, c2⟩ := (xd2.later hC).cells
          refine Goes.pure (.agg #[.bool d.s, .slice d.no d.nn d.nc, .slice d.eo d.en d.ec]) ?_ ⟨hC, Below.refl _ _, rfl⟩
          unfold Goes
          go_simp
        · have e64 : ρ (.tmp 64) = .agg #[.bool d.s, .slice d.no d.nn d.nc, .slice d.eo d.en d.ec] := hd (2, 64) (by simp)
          have e65 : ρ (.tmp 65) = .agg #[.bool d.s, .slice d.no d.nn d.nc, .slice d.eo d.en d.ec] := hd (3, 65) (by simp)
          have lb : Below u.heap.size u (u.alloc (.cells #[.bool d.s, .slice d.no d.nn d.nc, .slice d.eo d.en d.ec, .bool d.s, .slice d.no d.nn d.nc, .slice d.eo d.en d.ec] 24)) := (Below.refl _ _).alloc (Nat.le_refl _) _
          refine Goes.run (.slice (some ⟨u.heap.size, 0, none⟩) 2 2) (u.alloc (.cells #[.bool d.s, .slice d.no d.nn d.nc, .slice d.eo d.en d.ec, .bool d.s, .slice d.no d.nn d.nc, .slice d.eo d.en d.ec] 24)) (by go_simp) ⟨hC.trans (lb.mono hC.size), lb, ?_⟩
          exact VL.made [⟨d.s, d.no, d.nn, d.nc, d.eo, d.en, d.ec⟩, ⟨d.s, d.no, d.nn, d.nc, d.eo, d.en, d.ec⟩] [qa1 * qb1 + qa2 * qb2 + qa3 * qb3, qa1 * qb1 + qa2 * qb2 + qa3 * qb3] ⟨(cd2.later hC).rd.mono (by omega), (cd2.later hC).rd.mono (by omega), trivial⟩ _ rfl 2 rfl
        · have k66 : VL [qa1 * qb1 + qa2 * qb2 + qa3 * qb3, qa1 * qb1 + qa2 * qb2 + qa3 * qb3] (3 * (K + (K)) + 2) (ρ (.tmp 66)) u := hd (4, 66) (by simp)
          refine Goes.call 29 #[ρ (.tmp 66)] (by go_simp) ?_
          refine Calls.mono (ratProduct_k k66 (by omega) (by simp only [List.length_cons, List.length_nil]; omega)) ?_
          rintro e u' ⟨s1, no1, nn1, nc1, eo1, en1, ec1, rfl, cq, lb⟩
          exact ⟨_, rfl, hC.trans (lb.mono hC.size), lb, ⟨s1, no1, nn1, nc1, eo1, en1, ec1, rfl, by rw [qprod2] at cq; exact cq.mono (by simp only [List.length_cons, List.length_nil]; omega)⟩⟩
        · have e7 : ρ (.tmp 7) = .pointer (some ⟨gx, 0, none⟩) := ho 7 (by simp)
          obtain ⟨c0, c1, c2⟩ := (xx2.later hC).c0
          obtain ⟨c3, c4, c5⟩ := (xx2.later hC).c1
          obtain ⟨c6, c7, c8⟩ := (xx2.later hC).c2
          refine Goes.pure (.agg #[.bool x1.s, .slice x1.no x1.nn x1.nc, .slice x1.eo x1.en x1.ec, .bool x2.s, .slice x2.no x2.nn x2.nc, .slice x2.eo x2.en x2.ec, .bool x3.s, .slice x3.no x3.nn x3.nc, .slice x3.eo x3.en x3.ec]) ?_ ⟨hC, Below.refl _ _, rfl⟩
          unfold Goes
          go_simp
        · have e7 : ρ (.tmp 7) = .pointer (some ⟨gx, 0, none⟩) := ho 7 (by simp)
          obtain ⟨c0, c1, c2⟩ := (xx2.later hC).c0
          obtain ⟨c3, c4, c5⟩ := (xx2.later hC).c1
          obtain ⟨c6, c7, c8⟩ := (xx2.later hC).c2
          refine Goes.pure (.agg #[.bool x1.s, .slice x1.no x1.nn x1.nc, .slice x1.eo x1.en x1.ec, .bool x2.s, .slice x2.no x2.nn x2.nc, .slice x2.eo x2.en x2.ec, .bool x3.s, .slice x3.no x3.nn x3.nc, .slice x3.eo x3.en x3.ec]) ?_ ⟨hC, Below.refl _ _, rfl⟩
          unfold Goes
          go_simp
        · have e68 : ρ (.tmp 68) = .agg #[.bool x1.s, .slice x1.no x1.nn x1.nc, .slice x1.eo x1.en x1.ec, .bool x2.s, .slice x2.no x2.nn x2.nc, .slice x2.eo x2.en x2.ec, .bool x3.s, .slice x3.no x3.nn x3.nc, .slice x3.eo x3.en x3.ec] := hd (6, 68) (by simp)
          have e69 : ρ (.tmp 69) = .agg #[.bool x1.s, .slice x1.no x1.nn x1.nc, .slice x1.eo x1.en x1.ec, .bool x2.s, .slice x2.no x2.nn x2.nc, .slice x2.eo x2.en x2.ec, .bool x3.s, .slice x3.no x3.nn x3.nc, .slice x3.eo x3.en x3.ec] := hd (7, 69) (by simp)
          refine Goes.call 17 #[.agg #[.bool x1.s, .slice x1.no x1.nn x1.nc, .slice x1.eo x1.en x1.ec, .bool x2.s, .slice x2.no x2.nn x2.nc, .slice x2.eo x2.en x2.ec, .bool x3.s, .slice x3.no x3.nn x3.nc, .slice x3.eo x3.en x3.ec], .agg #[.bool x1.s, .slice x1.no x1.nn x1.nc, .slice x1.eo x1.en x1.ec, .bool x2.s, .slice x2.no x2.nn x2.nc, .slice x2.eo x2.en x2.ec, .bool x3.s, .slice x3.no x3.nn x3.nc, .slice x3.eo x3.en x3.ec]] (by go_simp) ?_
          refine Calls.mono (vdot_k ((cx2.later hC).rd) ((cx2.later hC).rd) (by omega) (by omega) (by omega)) ?_
          rintro e u' ⟨s1, no1, nn1, nc1, eo1, en1, ec1, rfl, cq, lb⟩
          exact ⟨_, rfl, hC.trans (lb.mono hC.size), lb, ⟨s1, no1, nn1, nc1, eo1, en1, ec1, rfl, cq⟩⟩
        · obtain ⟨s67, no67, nn67, nc67, eo67, en67, ec67, e67, k67⟩ : VC ((qa1 * qb1 + qa2 * qb2 + qa3 * qb3) * (qa1 * qb1 + qa2 * qb2 + qa3 * qb3)) (2 * (3 * (K + (K)) + 2 + 1) + 1) (ρ (.tmp 67)) u := hd (5, 67) (by simp)
          obtain ⟨s70, no70, nn70, nc70, eo70, en70, ec70, e70, k70⟩ : VC ((qa2 * qb3 - qa3 * qb2) * (qa2 * qb3 - qa3 * qb2) + (qa3 * qb1 - qa1 * qb3) * (qa3 * qb1 - qa1 * qb3) + (qa1 * qb2 - qa2 * qb1) * (qa1 * qb2 - qa2 * qb1)) (3 * (K + (K) + (K + (K)) + 1 + (K + (K) + (K + (K)) + 1)) + 2) (ρ (.tmp 70)) u := hd (8, 70) (by simp)
          have lb : Below u.heap.size u (u.alloc (.cells #[.bool s67, .slice no67 nn67 nc67, .slice eo67 en67 ec67, .bool s70, .slice no70 nn70 nc70, .slice eo70 en70 ec70] 24)) := (Below.refl _ _).alloc (Nat.le_refl _) _
          refine Goes.run (.slice (some ⟨u.heap.size, 0, none⟩) 2 2) (u.alloc (.cells #[.bool s67, .slice no67 nn67 nc67, .slice eo67 en67 ec67, .bool s70, .slice no70 nn70 nc70, .slice eo70 en70 ec70] 24)) (by go_simp) ⟨hC.trans (lb.mono hC.size), lb, ?_⟩
          exact VL.made [⟨s67, no67, nn67, nc67, eo67, en67, ec67⟩, ⟨s70, no70, nn70, nc70, eo70, en70, ec70⟩] [(qa1 * qb1 + qa2 * qb2 + qa3 * qb3) * (qa1 * qb1 + qa2 * qb2 + qa3 * qb3), (qa2 * qb3 - qa3 * qb2) * (qa2 * qb3 - qa3 * qb2) + (qa3 * qb1 - qa1 * qb3) * (qa3 * qb1 - qa1 * qb3) + (qa1 * qb2 - qa2 * qb1) * (qa1 * qb2 - qa2 * qb1)] ⟨k67.rd.mono (by omega), k70.rd.mono (by omega), trivial⟩ _ rfl 2 rfl
        · have k71 : VL [(qa1 * qb1 + qa2 * qb2 + qa3 * qb3) * (qa1 * qb1 + qa2 * qb2 + qa3 * qb3), (qa2 * qb3 - qa3 * qb2) * (qa2 * qb3 - qa3 * qb2) + (qa3 * qb1 - qa1 * qb3) * (qa3 * qb1 - qa1 * qb3) + (qa1 * qb2 - qa2 * qb1) * (qa1 * qb2 - qa2 * qb1)] (2 * (3 * (K + (K)) + 2 + 1) + 1 + 3 * (K + (K) + (K + (K)) + 1 + (K + (K) + (K + (K)) + 1)) + 2) (ρ (.tmp 71)) u := hd (9, 71) (by simp)
          refine Goes.call 28 #[ρ (.tmp 71)] (by go_simp) ?_
          refine Calls.mono (ratSum_k k71 (by omega) (by simp only [List.length_cons, List.length_nil]; omega)) ?_
          rintro e u' ⟨s1, no1, nn1, nc1, eo1, en1, ec1, rfl, cq, lb⟩
          exact ⟨_, rfl, hC.trans (lb.mono hC.size), lb, ⟨s1, no1, nn1, nc1, eo1, en1, ec1, rfl, by rw [qsum2] at cq; exact cq.mono (by simp only [List.length_cons, List.length_nil]; omega)⟩⟩
        · have e3 : ρ (.tmp 3) = .pointer (some ⟨ga, 0, none⟩) := ho 3 (by simp)
          obtain ⟨c0, c1, c2⟩ := (xa.later hC).c0
          obtain ⟨c3, c4, c5⟩ := (xa.later hC).c1
          obtain ⟨c6, c7, c8⟩ := (xa.later hC).c2
          refine Goes.pure (.agg #[.bool a1.s, .slice a1.no a1.nn a1.nc, .slice a1.eo a1.en a1.ec, .bool a2.s, .slice a2.no a2.nn a2.nc, .slice a2.eo a2.en a2.ec, .bool a3.s, .slice a3.no a3.nn a3.nc, .slice a3.eo a3.en a3.ec]) ?_ ⟨hC, Below.refl _ _, rfl⟩
          unfold Goes
          go_simp
        · have e3 : ρ (.tmp 3) = .pointer (some ⟨ga, 0, none⟩) := ho 3 (by simp)
          obtain ⟨c0, c1, c2⟩ := (xa.later hC).c0
          obtain ⟨c3, c4, c5⟩ := (xa.later hC).c1
          obtain ⟨c6, c7, c8⟩ := (xa.later hC).c2
          refine Goes.pure (.agg #[.bool a1.s, .slice a1.no a1.nn a1.nc, .slice a1.eo a1.en a1.ec, .bool a2.s, .slice a2.no a2.nn a2.nc, .slice a2.eo a2.en a2.ec, .bool a3.s, .slice a3.no a3.nn a3.nc, .slice a3.eo a3.en a3.ec]) ?_ ⟨hC, Below.refl _ _, rfl⟩
          unfold Goes
          go_simp
        · have e73 : ρ (.tmp 73) = .agg #[.bool a1.s, .slice a1.no a1.nn a1.nc, .slice a1.eo a1.en a1.ec, .bool a2.s, .slice a2.no a2.nn a2.nc, .slice a2.eo a2.en a2.ec, .bool a3.s, .slice a3.no a3.nn a3.nc, .slice a3.eo a3.en a3.ec] := hd (11, 73) (by simp)
          have e74 : ρ (.tmp 74) = .agg #[.bool a1.s, .slice a1.no a1.nn a1.nc, .slice a1.eo a1.en a1.ec, .bool a2.s, .slice a2.no a2.nn a2.nc, .slice a2.eo a2.en a2.ec, .bool a3.s, .slice a3.no a3.nn a3.nc, .slice a3.eo a3.en a3.ec] := hd (12, 74) (by simp)
          refine Goes.call 17 #[.agg #[.bool a1.s, .slice a1.no a1.nn a1.nc, .slice a1.eo a1.en a1.ec, .bool a2.s, .slice a2.no a2.nn a2.nc, .slice a2.eo a2.en a2.ec, .bool a3.s, .slice a3.no a3.nn a3.nc, .slice a3.eo a3.en a3.ec], .agg #[.bool a1.s, .slice a1.no a1.nn a1.nc, .slice a1.eo a1.en a1.ec, .bool a2.s, .slice a2.no a2.nn a2.nc, .slice a2.eo a2.en a2.ec, .bool a3.s, .slice a3.no a3.nn a3.nc, .slice a3.eo a3.en a3.ec]] (by go_simp) ?_
          refine Calls.mono (vdot_k (ha.later hC) (ha.later hC) (by omega) (by omega) (by omega)) ?_
          rintro e u' ⟨s1, no1, nn1, nc1, eo1, en1, ec1, rfl, cq, lb⟩
          exact ⟨_, rfl, hC.trans (lb.mono hC.size), lb, ⟨s1, no1, nn1, nc1, eo1, en1, ec1, rfl, cq⟩⟩
        · have e4 : ρ (.tmp 4) = .pointer (some ⟨gb, 0, none⟩) := ho 4 (by simp)
          obtain ⟨c0, c1, c2⟩ := (xb.later hC).c0
          obtain ⟨c3, c4, c5⟩ := (xb.later hC).c1
          obtain ⟨c6, c7, c8⟩ := (xb.later hC).c2
          refine Goes.pure (.agg #[.bool b1.s, .slice b1.no b1.nn b1.nc, .slice b1.eo b1.en b1.ec, .bool b2.s, .slice b2.no b2.nn b2.nc, .slice b2.eo b2.en b2.ec, .bool b3.s, .slice b3.no b3.nn b3.nc, .slice b3.eo b3.en b3.ec]) ?_ ⟨hC, Below.refl _ _, rfl⟩
          unfold Goes
          go_simp
        · have e4 : ρ (.tmp 4) = .pointer (some ⟨gb, 0, none⟩) := ho 4 (by simp)
          obtain ⟨c0, c1, c2⟩ := (xb.later hC).c0
          obtain ⟨c3, c4, c5⟩ := (xb.later hC).c1
          obtain ⟨c6, c7, c8⟩ := (xb.later hC).c2
          refine Goes.pure (.agg #[.bool b1.s, .slice b1.no b1.nn b1.nc, .slice b1.eo b1.en b1.ec, .bool b2.s, .slice b2.no b2.nn b2.nc, .slice b2.eo b2.en b2.ec, .bool b3.s, .slice b3.no b3.nn b3.nc, .slice b3.eo b3.en b3.ec]) ?_ ⟨hC, Below.refl _ _, rfl⟩
          unfold Goes
          go_simp
        · have e76 : ρ (.tmp 76) = .agg #[.bool b1.s, .slice b1.no b1.nn b1.nc, .slice b1.eo b1.en b1.ec, .bool b2.s, .slice b2.no b2.nn b2.nc, .slice b2.eo b2.en b2.ec, .bool b3.s, .slice b3.no b3.nn b3.nc, .slice b3.eo b3.en b3.ec] := hd (14, 76) (by simp)
          have e77 : ρ (.tmp 77) = .agg #[.bool b1.s, .slice b1.no b1.nn b1.nc, .slice b1.eo b1.en b1.ec, .bool b2.s, .slice b2.no b2.nn b2.nc, .slice b2.eo b2.en b2.ec, .bool b3.s, .slice b3.no b3.nn b3.nc, .slice b3.eo b3.en b3.ec] := hd (15, 77) (by simp)
          refine Goes.call 17 #[.agg #[.bool b1.s, .slice b1.no b1.nn b1.nc, .slice b1.eo b1.en b1.ec, .bool b2.s, .slice b2.no b2.nn b2.nc, .slice b2.eo b2.en b2.ec, .bool b3.s, .slice b3.no b3.nn b3.nc, .slice b3.eo b3.en b3.ec], .agg #[.bool b1.s, .slice b1.no b1.nn b1.nc, .slice b1.eo b1.en b1.ec, .bool b2.s, .slice b2.no b2.nn b2.nc, .slice b2.eo b2.en b2.ec, .bool b3.s, .slice b3.no b3.nn b3.nc, .slice b3.eo b3.en b3.ec]] (by go_simp) ?_
          refine Calls.mono (vdot_k (hb.later hC) (hb.later hC) (by omega) (by omega) (by omega)) ?_
          rintro e u' ⟨s1, no1, nn1, nc1, eo1, en1, ec1, rfl, cq, lb⟩
          exact ⟨_, rfl, hC.trans (lb.mono hC.size), lb, ⟨s1, no1, nn1, nc1, eo1, en1, ec1, rfl, cq⟩⟩
        · obtain ⟨s75, no75, nn75, nc75, eo75, en75, ec75, e75, k75⟩ : VC (qa1 * qa1 + qa2 * qa2 + qa3 * qa3) (3 * (K + (K)) + 2) (ρ (.tmp 75)) u := hd (13, 75) (by simp)
          obtain ⟨s78, no78, nn78, nc78, eo78, en78, ec78, e78, k78⟩ : VC (qb1 * qb1 + qb2 * qb2 + qb3 * qb3) (3 * (K + (K)) + 2) (ρ (.tmp 78)) u := hd (16, 78) (by simp)
          have lb : Below u.heap.size u (u.alloc (.cells #[.bool s75, .slice no75 nn75 nc75, .slice eo75 en75 ec75, .bool s78, .slice no78 nn78 nc78, .slice eo78 en78 ec78] 24)) := (Below.refl _ _).alloc (Nat.le_refl _) _
          refine Goes.run (.slice (some ⟨u.heap.size, 0, none⟩) 2 2) (u.alloc (.cells #[.bool s75, .slice no75 nn75 nc75, .slice eo75 en75 ec75, .bool s78, .slice no78 nn78 nc78, .slice eo78 en78 ec78] 24)) (by go_simp) ⟨hC.trans (lb.mono hC.size), lb, ?_⟩
          exact VL.made [⟨s75, no75, nn75, nc75, eo75, en75, ec75⟩, ⟨s78, no78, nn78, nc78, eo78, en78, ec78⟩] [qa1 * qa1 + qa2 * qa2 + qa3 * qa3, qb1 * qb1 + qb2 * qb2 + qb3 * qb3] ⟨k75.rd.mono (by omega), k78.rd.mono (by omega), trivial⟩ _ rfl 2 rfl
        · have k79 : VL [qa1 * qa1 + qa2 * qa2 + qa3 * qa3, qb1 * qb1 + qb2 * qb2 + qb3 * qb3] (3 * (K + (K)) + 2) (ρ (.tmp 79)) u := hd (17, 79) (by simp)
          refine Goes.call 29 #[ρ (.tmp 79)] (by go_simp) ?_
          refine Calls.mono (ratProduct_k k79 (by omega) (by simp only [List.length_cons, List.length_nil]; omega)) ?_
          rintro e u' ⟨s1, no1, nn1, nc1, eo1, en1, ec1, rfl, cq, lb⟩
          exact ⟨_, rfl, hC.trans (lb.mono hC.size), lb, ⟨s1, no1, nn1, nc1, eo1, en1, ec1, rfl, by rw [qprod2] at cq; exact cq.mono (by simp only [List.length_cons, List.length_nil]; omega)⟩⟩
        · obtain ⟨s72, no72, nn72, nc72, eo72, en72, ec72, e72, k72⟩ : VC (((qa1 * qb1 + qa2 * qb2 + qa3 * qb3) * (qa1 * qb1 + qa2 * qb2 + qa3 * qb3)) + ((qa2 * qb3 - qa3 * qb2) * (qa2 * qb3 - qa3 * qb2) + (qa3 * qb1 - qa1 * qb3) * (qa3 * qb1 - qa1 * qb3) + (qa1 * qb2 - qa2 * qb1) * (qa1 * qb2 - qa2 * qb1))) (2 * (2 * (3 * (K + (K)) + 2 + 1) + 1 + 3 * (K + (K) + (K + (K)) + 1 + (K + (K) + (K + (K)) + 1)) + 2 + 1) + 1) (ρ (.tmp 72)) u := hd (10, 72) (by simp)
          obtain ⟨s80, no80, nn80, nc80, eo80, en80, ec80, e80, k80⟩ : VC ((qa1 * qa1 + qa2 * qa2 + qa3 * qa3) * (qb1 * qb1 + qb2 * qb2 + qb3 * qb3)) (2 * (3 * (K + (K)) + 2 + 1) + 1) (ρ (.tmp 80)) u := hd (18, 80) (by simp)
          refine Goes.call 16 #[.agg #[.bool s72, .slice no72 nn72 nc72, .slice eo72 en72 ec72], .agg #[.bool s80, .slice no80 nn80 nc80, .slice eo80 en80 ec80]] (by go_simp) ?_
          refine Calls.mono (is3_any u s72 no72 nn72 nc72 eo72 en72 ec72 s80 no80 nn80 nc80 eo80 en80 ec80 _ _ _ _ k72.num k72.den k80.num k80.den (by have := k72.ln; omega) (by have := k72.ld; omega) (by have := k80.ln; omega) (by have := k80.ld; omega)) ?_
          rintro e u' ⟨r, rfl, HR, lb⟩
          exact ⟨_, rfl, hC.trans (lb.mono hC.size), lb, by rw [HR.out.2 (cq_same k72 k80 (by grind))]; rfl⟩
        · have e63 : ρ (.tmp 63) = .bool true := hd (1, 63) (by simp)
          have e81 : ρ (.tmp 81) = .bool true := hd (19, 81) (by simp)
          refine Goes.pure (.bool true) ?_ ⟨hC, Below.refl _ _, rfl⟩
          unfold Goes
          go_simp
      · intro vs u hC hv
        have eR : vs 20 = .bool true := hv 20 (by omega)
        clear hv
        simp only [puts, List.take, List.drop, Act.put, List.setIfInBounds_toArray, List.set_cons_succ, List.set_cons_zero, Nat.reduceAdd, eR]
        go_wp2
        go_ret
        exact ⟨rfl, B10.trans (hC.mono B10.size)⟩
end Go.Proofs.Ytmbemidacilakaa
