/- package vec: Read, Sub, Scale, Dot. -/
import Derived.Test.YtmbemidacilakaaAq
import Derived.Test.YtmbemidacilakaaAc
import Derived.Test.YtmbemidacilakaaAr
namespace Go.Proofs.Ytmbemidacilakaa
open Go.RowKit M Kahn
set_option maxRecDepth 100000

set_option maxRecDepth 100000 in
set_option maxHeartbeats 8000000 in
theorem vread_k {w : World} {a1 a2 a3 : RP} {qa1 qa2 qa3 : Rat} {K : Nat} (ha0 : Qv w a1 a2 a3 qa1 qa2 qa3 K) (K1 : 1 ≤ K) (hK : K ≤ 1073741824) :
    Calls Try.prog 21 #[.agg #[.bool a1.s, .slice a1.no a1.nn a1.nc, .slice a1.eo a1.en a1.ec, .bool a2.s, .slice a2.no a2.nn a2.nc, .slice a2.eo a2.en a2.ec, .bool a3.s, .slice a3.no a3.nn a3.nc, .slice a3.eo a3.en a3.ec]] w (Gv3 w (K) (qa1) (qa2) (qa3)) := by
  obtain ⟨w0, hw0, x0, x1, b0⟩ := bx_Vv w a1 a2 a3
  have ha := ha0.later b0
  clear ha0
  obtain ⟨g0, hg0⟩ : ∃ g0, g0 = w.heap.size := ⟨_, rfl⟩
  obtain ⟨g1, hg1⟩ : ∃ g1, g1 = w.heap.size + 1 := ⟨_, rfl⟩
  have HG : Hid (w.heap.size ≤ g1) := by show w.heap.size ≤ g1; omega
  go_enter Try.func21, Try.ntmps21
  go_wp2
  rw [← hw0, ← hg1, ← hg0]
  rw [← hg0] at x0
  rw [← hg1] at x1
  clear hw0 hg0 hg1
  have HLst : Lst [VV (.pointer (some ⟨g0, 0, none⟩)), VV (.agg #[.bool a1.s, .slice a1.no a1.nn a1.nc, .slice a1.eo a1.en a1.ec]), VC (qa1) (K), VV (.pointer (some ⟨g0, 3, none⟩)), VV (.agg #[.bool a2.s, .slice a2.no a2.nn a2.nc, .slice a2.eo a2.en a2.ec]), VC (qa2) (K), VV (.pointer (some ⟨g0, 6, none⟩)), VV (.agg #[.bool a3.s, .slice a3.no a3.nn a3.nc, .slice a3.eo a3.en a3.ec]), VC (qa3) (K), VG (qa1) (qa2) (qa3) (K)] := ⟨VV.lasts _, VV.lasts _, VC.lasts _ _, VV.lasts _, VV.lasts _, VC.lasts _ _, VV.lasts _, VV.lasts _, VC.lasts _ _, VG.lasts _ _ _ _, trivial⟩
  refine wp_region_kahn 10 13 [([], [1]), ([(0, 3)], []), ([(1, 4)], []), ([], [1]), ([(3, 6)], []), ([(4, 7)], []), ([], [1]), ([(6, 9)], []), ([(7, 10)], []), ([(2, 5), (5, 8), (8, 11)], [])]
    (fun u => Below w0.heap.size w0 u) (fun u u' => Below u.heap.size u u')
    (Sp [VV (.pointer (some ⟨g0, 0, none⟩)), VV (.agg #[.bool a1.s, .slice a1.no a1.nn a1.nc, .slice a1.eo a1.en a1.ec]), VC (qa1) (K), VV (.pointer (some ⟨g0, 3, none⟩)), VV (.agg #[.bool a2.s, .slice a2.no a2.nn a2.nc, .slice a2.eo a2.en a2.ec]), VC (qa2) (K), VV (.pointer (some ⟨g0, 6, none⟩)), VV (.agg #[.bool a3.s, .slice a3.no a3.nn a3.nc, .slice a3.eo a3.en a3.ec]), VC (qa3) (K), VG (qa1) (qa2) (qa3) (K)])
    (by kernel_rfl) rfl (by kernel_rfl) (Below.refl _ _).drew (fun k v u u' _ hg hs => Sp.lasts HLst k v u u' hg hs) ?_ ?_
  · clear HLst
    refine ⟨.inl ⟨by simp, fun ρ u hC hc hf hd ho => ?_⟩, .inl ⟨by simp, fun ρ u hC hc hf hd ho => ?_⟩, .inl ⟨by simp, fun ρ u hC hc hf hd ho => ?_⟩, .inl ⟨by simp, fun ρ u hC hc hf hd ho => ?_⟩, .inl ⟨by simp, fun ρ u hC hc hf hd ho => ?_⟩, .inl ⟨by simp, fun ρ u hC hc hf hd ho => ?_⟩, .inl ⟨by simp, fun ρ u hC hc hf hd ho => ?_⟩, .inl ⟨by simp, fun ρ u hC hc hf hd ho => ?_⟩, .inl ⟨by simp, fun ρ u hC hc hf hd ho => ?_⟩, .inl ⟨by simp, fun ρ u hC hc hf hd ho => ?_⟩, trivial⟩
    · have e1 : ρ (.tmp 1) = .pointer (some ⟨g0, 0, none⟩) := ho 1 (by simp)
      refine Goes.pure (.pointer (some ⟨g0, 0, none⟩)) ?_ ⟨hC, Below.refl _ _, rfl⟩
      unfold Goes
      go_simp
    · have e3 : ρ (.tmp 3) = .pointer (some ⟨g0, 0, none⟩) := hd (0, 3) (by simp)
      obtain ⟨c0, c1, c2⟩ := (x0.later hC).c0
      refine Goes.pure (.agg #[.bool a1.s, .slice a1.no a1.nn a1.nc, .slice a1.eo a1.en a1.ec]) ?_ ⟨hC, Below.refl _ _, rfl⟩
      unfold Goes
      go_simp
    · have e4 : ρ (.tmp 4) = .agg #[.bool a1.s, .slice a1.no a1.nn a1.nc, .slice a1.eo a1.en a1.ec] := hd (1, 4) (by simp)
      refine Goes.call 43 #[.agg #[.bool a1.s, .slice a1.no a1.nn a1.nc, .slice a1.eo a1.en a1.ec]] (by go_simp) ?_
      refine Calls.mono (ratRead_k (ha.later hC).x (by omega) (by omega)) ?_
      rintro e u' ⟨s1, no1, nn1, nc1, eo1, en1, ec1, rfl, cq, lb⟩
      exact ⟨_, rfl, hC.trans (lb.mono hC.size), lb, ⟨s1, no1, nn1, nc1, eo1, en1, ec1, rfl, cq⟩⟩
    · have e1 : ρ (.tmp 1) = .pointer (some ⟨g0, 0, none⟩) := ho 1 (by simp)
      refine Goes.pure (.pointer (some ⟨g0, 3, none⟩)) ?_ ⟨hC, Below.refl _ _, rfl⟩
      unfold Goes
      go_simp
    · have e6 : ρ (.tmp 6) = .pointer (some ⟨g0, 3, none⟩) := hd (3, 6) (by simp)
      obtain ⟨c0, c1, c2⟩ := (x0.later hC).c1
      refine Goes.pure (.agg #[.bool a2.s, .slice a2.no a2.nn a2.nc, .slice a2.eo a2.en a2.ec]) ?_ ⟨hC, Below.refl _ _, rfl⟩
      unfold Goes
      go_simp
    · have e7 : ρ (.tmp 7) = .agg #[.bool a2.s, .slice a2.no a2.nn a2.nc, .slice a2.eo a2.en a2.ec] := hd (4, 7) (by simp)
      refine Goes.call 43 #[.agg #[.bool a2.s, .slice a2.no a2.nn a2.nc, .slice a2.eo a2.en a2.ec]] (by go_simp) ?_
      refine Calls.mono (ratRead_k (ha.later hC).y (by omega) (by omega)) ?_
      rintro e u' ⟨s1, no1, nn1, nc1, eo1, en1, ec1, rfl, cq, lb⟩
      exact ⟨_, rfl, hC.trans (lb.mono hC.size), lb, ⟨s1, no1, nn1, nc1, eo1, en1, ec1, rfl, cq⟩⟩
    · have e1 : ρ (.tmp 1) = .pointer (some ⟨g0, 0, none⟩) := ho 1 (by simp)
      refine Goes.pure (.pointer (some ⟨g0, 6, none⟩)) ?_ ⟨hC, Below.refl _ _, rfl⟩
      unfold Goes
      go_simp
    · have e9 : ρ (.tmp 9) = .pointer (some ⟨g0, 6, none⟩) := hd (6, 9) (by simp)
      obtain ⟨c0, c1, c2⟩ := (x0.later hC).c2
      refine Goes.pure (.agg #[.bool a3.s, .slice a3.no a3.nn a3.nc, .slice a3.eo a3.en a3.ec]) ?_ ⟨hC, Below.refl _ _, rfl⟩
      unfold Goes
      go_simp
    · have e10 : ρ (.tmp 10) = .agg #[.bool a3.s, .slice a3.no a3.nn a3.nc, .slice a3.eo a3.en a3.ec] := hd (7, 10) (by simp)
      refine Goes.call 43 #[.agg #[.bool a3.s, .slice a3.no a3.nn a3.nc, .slice a3.eo a3.en a3.ec]] (by go_simp) ?_
      refine Calls.mono (ratRead_k (ha.later hC).z (by omega) (by omega)) ?_
      rintro e u' ⟨s1, no1, nn1, nc1, eo1, en1, ec1, rfl, cq, lb⟩
      exact ⟨_, rfl, hC.trans (lb.mono hC.size), lb, ⟨s1, no1, nn1, nc1, eo1, en1, ec1, rfl, cq⟩⟩
    · obtain ⟨s5, no5, nn5, nc5, eo5, en5, ec5, e5, k5⟩ : VC (qa1) (K) (ρ (.tmp 5)) u := hd (2, 5) (by simp)
      obtain ⟨s8, no8, nn8, nc8, eo8, en8, ec8, e8, k8⟩ : VC (qa2) (K) (ρ (.tmp 8)) u := hd (5, 8) (by simp)
      obtain ⟨s11, no11, nn11, nc11, eo11, en11, ec11, e11, k11⟩ : VC (qa3) (K) (ρ (.tmp 11)) u := hd (8, 11) (by simp)
      refine Goes.pure (.agg #[.bool s5, .slice no5 nn5 nc5, .slice eo5 en5 ec5, .bool s8, .slice no8 nn8 nc8, .slice eo8 en8 ec8, .bool s11, .slice no11 nn11 nc11, .slice eo11 en11 ec11]) ?_ ⟨hC, Below.refl _ _, ⟨⟨s5, no5, nn5, nc5, eo5, en5, ec5⟩, ⟨s8, no8, nn8, nc8, eo8, en8, ec8⟩, ⟨s11, no11, nn11, nc11, eo11, en11, ec11⟩, rfl, k5.mono (by omega), k8.mono (by omega), k11.mono (by omega)⟩⟩
      unfold Goes
      go_simp
  · intro vs u hC hv
    obtain ⟨ra, rb, rc, eR, cv⟩ : VG (qa1) (qa2) (qa3) (K) (vs 9) u := hv 9 (by omega)
    have xr := x1.later hC
    obtain ⟨c0, c1, c2⟩ := xr.c0
    obtain ⟨c3, c4, c5⟩ := xr.c1
    obtain ⟨c6, c7, c8⟩ := xr.c2
    have f0 := xr.free 0
    have f1 := xr.free 1
    have f2 := xr.free 2
    have f3 := xr.free 3
    have f4 := xr.free 4
    have f5 := xr.free 5
    have f6 := xr.free 6
    have f7 := xr.free 7
    have f8 := xr.free 8
    clear hv
    simp only [puts, List.take, List.drop, Act.put, List.setIfInBounds_toArray, List.set_cons_succ, List.set_cons_zero, Nat.reduceAdd, eR]
    go_wp2
    exact ret_storeV rfl rfl rfl xr HG.out (cv.mono (by omega)) (b0.trans (hC.mono b0.size))
set_option maxRecDepth 100000 in
set_option maxHeartbeats 8000000 in
theorem vsub_k {w : World} {a1 a2 a3 : RP} {qa1 qa2 qa3 : Rat} {b1 b2 b3 : RP} {qb1 qb2 qb3 : Rat} {K L : Nat} (ha0 : Qv w a1 a2 a3 qa1 qa2 qa3 K) (hb0 : Qv w b1 b2 b3 qb1 qb2 qb3 L) (K1 : 1 ≤ K) (L1 : 1 ≤ L) (hK : K + L + 1 ≤ 1073741824) :
    Calls Try.prog 12 #[.agg #[.bool a1.s, .slice a1.no a1.nn a1.nc, .slice a1.eo a1.en a1.ec, .bool a2.s, .slice a2.no a2.nn a2.nc, .slice a2.eo a2.en a2.ec, .bool a3.s, .slice a3.no a3.nn a3.nc, .slice a3.eo a3.en a3.ec], .agg #[.bool b1.s, .slice b1.no b1.nn b1.nc, .slice b1.eo b1.en b1.ec, .bool b2.s, .slice b2.no b2.nn b2.nc, .slice b2.eo b2.en b2.ec, .bool b3.s, .slice b3.no b3.nn b3.nc, .slice b3.eo b3.en b3.ec]] w (Gv3 w (K + L + 1) (qa1 - (qb1)) (qa2 - (qb2)) (qa3 - (qb3))) := by
  obtain ⟨w0, hw0, x0, x1, x2, b0⟩ := bx_VVv w a1 a2 a3 b1 b2 b3
  have ha := ha0.later b0
  clear ha0
  have hb := hb0.later b0
  clear hb0
  obtain ⟨g0, hg0⟩ : ∃ g0, g0 = w.heap.size := ⟨_, rfl⟩
  obtain ⟨g1, hg1⟩ : ∃ g1, g1 = w.heap.size + 1 := ⟨_, rfl⟩
  obtain ⟨g2, hg2⟩ : ∃ g2, g2 = w.heap.size + 2 := ⟨_, rfl⟩
  have HG : Hid (w.heap.size ≤ g2) := by show w.heap.size ≤ g2; omega
  go_enter Try.func12, Try.ntmps12
  go_wp2
  rw [← hw0, ← hg2, ← hg1, ← hg0]
  rw [← hg0] at x0
  rw [← hg1] at x1
  rw [← hg2] at x2
  clear hw0 hg0 hg1 hg2
  have HLst : Lst [VV (.pointer (some ⟨g0, 0, none⟩)), VV (.agg #[.bool a1.s, .slice a1.no a1.nn a1.nc, .slice a1.eo a1.en a1.ec]), VV (.pointer (some ⟨g1, 0, none⟩)), VV (.agg #[.bool b1.s, .slice b1.no b1.nn b1.nc, .slice b1.eo b1.en b1.ec]), VC (qa1 - (qb1)) (K + (L) + 1), VV (.pointer (some ⟨g0, 3, none⟩)), VV (.agg #[.bool a2.s, .slice a2.no a2.nn a2.nc, .slice a2.eo a2.en a2.ec]), VV (.pointer (some ⟨g1, 3, none⟩)), VV (.agg #[.bool b2.s, .slice b2.no b2.nn b2.nc, .slice b2.eo b2.en b2.ec]), VC (qa2 - (qb2)) (K + (L) + 1), VV (.pointer (some ⟨g0, 6, none⟩)), VV (.agg #[.bool a3.s, .slice a3.no a3.nn a3.nc, .slice a3.eo a3.en a3.ec]), VV (.pointer (some ⟨g1, 6, none⟩)), VV (.agg #[.bool b3.s, .slice b3.no b3.nn b3.nc, .slice b3.eo b3.en b3.ec]), VC (qa3 - (qb3)) (K + (L) + 1), VG (qa1 - (qb1)) (qa2 - (qb2)) (qa3 - (qb3)) (K + (L) + 1)] := ⟨VV.lasts _, VV.lasts _, VV.lasts _, VV.lasts _, VC.lasts _ _, VV.lasts _, VV.lasts _, VV.lasts _, VV.lasts _, VC.lasts _ _, VV.lasts _, VV.lasts _, VV.lasts _, VV.lasts _, VC.lasts _ _, VG.lasts _ _ _ _, trivial⟩
  refine wp_region_kahn 16 21 [([], [2]), ([(0, 5)], []), ([], [3]), ([(2, 7)], []), ([(1, 6), (3, 8)], []), ([], [2]), ([(5, 10)], []), ([], [3]), ([(7, 12)], []), ([(6, 11), (8, 13)], []), ([], [2]), ([(10, 15)], []), ([], [3]), ([(12, 17)], []), ([(11, 16), (13, 18)], []), ([(4, 9), (9, 14), (14, 19)], [])]
    (fun u => Below w0.heap.size w0 u) (fun u u' => Below u.heap.size u u')
    (Sp [VV (.pointer (some ⟨g0, 0, none⟩)), VV (.agg #[.bool a1.s, .slice a1.no a1.nn a1.nc, .slice a1.eo a1.en a1.ec]), VV (.pointer (some ⟨g1, 0, none⟩)), VV (.agg #[.bool b1.s, .slice b1.no b1.nn b1.nc, .slice b1.eo b1.en b1.ec]), VC (qa1 - (qb1)) (K + (L) + 1), VV (.pointer (some ⟨g0, 3, none⟩)), VV (.agg #[.bool a2.s, .slice a2.no a2.nn a2.nc, .slice a2.eo a2.en a2.ec]), VV (.pointer (some ⟨g1, 3, none⟩)), VV (.agg #[.bool b2.s, .slice b2.no b2.nn b2.nc, .slice b2.eo b2.en b2.ec]), VC (qa2 - (qb2)) (K + (L) + 1), VV (.pointer (some ⟨g0, 6, none⟩)), VV (.agg #[.bool a3.s, .slice a3.no a3.nn a3.nc, .slice a3.eo a3.en a3.ec]), VV (.pointer (some ⟨g1, 6, none⟩)), VV (.agg #[.bool b3.s, .slice b3.no b3.nn b3.nc, .slice b3.eo b3.en b3.ec]), VC (qa3 - (qb3)) (K + (L) + 1), VG (qa1 - (qb1)) (qa2 - (qb2)) (qa3 - (qb3)) (K + (L) + 1)])
    (by kernel_rfl) rfl (by kernel_rfl) (Below.refl _ _).drew (fun k v u u' _ hg hs => Sp.lasts HLst k v u u' hg hs) ?_ ?_
  · clear HLst
    refine ⟨.inl ⟨by simp, fun ρ u hC hc hf hd ho => ?_⟩, .inl ⟨by simp, fun ρ u hC hc hf hd ho => ?_⟩, .inl ⟨by simp, fun ρ u hC hc hf hd ho => ?_⟩, .inl ⟨by simp, fun ρ u hC hc hf hd ho => ?_⟩, .inl ⟨by simp, fun ρ u hC hc hf hd ho => ?_⟩, .inl ⟨by simp, fun ρ u hC hc hf hd ho => ?_⟩, .inl ⟨by simp, fun ρ u hC hc hf hd ho => ?_⟩, .inl ⟨by simp, fun ρ u hC hc hf hd ho => ?_⟩, .inl ⟨by simp, fun ρ u hC hc hf hd ho => ?_⟩, .inl ⟨by simp, fun ρ u hC hc hf hd ho => ?_⟩, .inl ⟨by simp, fun ρ u hC hc hf hd ho => ?_⟩, .inl ⟨by simp, fun ρ u hC hc hf hd ho => ?_⟩, .inl ⟨by simp, fun ρ u hC hc hf hd ho => ?_⟩, .inl ⟨by simp, fun ρ u hC hc hf hd ho => ?_⟩, .inl ⟨by simp, fun ρ u hC hc hf hd ho => ?_⟩, .inl ⟨by simp, fun ρ u hC hc hf hd ho => ?_⟩, trivial⟩
    · have e2 : ρ (.tmp 2) = .pointer (some ⟨g0, 0, none⟩) := ho 2 (by simp)
      refine Goes.pure (.pointer (some ⟨g0, 0, none⟩)) ?_ ⟨hC, Below.refl _ _, rfl⟩
      unfold Goes
      go_simp
    · have e5 : ρ (.tmp 5) = .pointer (some ⟨g0, 0, none⟩) := hd (0, 5) (by simp)
      obtain ⟨c0, c1, c2⟩ := (x0.later hC).c0
      refine Goes.pure (.agg #[.bool a1.s, .slice a1.no a1.nn a1.nc, .slice a1.eo a1.en a1.ec]) ?_ ⟨hC, Below.refl _ _, rfl⟩
      unfold Goes
      go_simp
    · have e3 : ρ (.tmp 3) = .pointer (some ⟨g1, 0, none⟩) := ho 3 (by simp)
      refine Goes.pure (.pointer (some ⟨g1, 0, none⟩)) ?_ ⟨hC, Below.refl _ _, rfl⟩
      unfold Goes
      go_simp
    · have e7 : ρ (.tmp 7) = .pointer (some ⟨g1, 0, none⟩) := hd (2, 7) (by simp)
      obtain ⟨c0, c1, c2⟩ := (x1.later hC).c0
      refine Goes.pure (.agg #[.bool b1.s, .slice b1.no b1.nn b1.nc, .slice b1.eo b1.en b1.ec]) ?_ ⟨hC, Below.refl _ _, rfl⟩
      unfold Goes
      go_simp
    · have e6 : ρ (.tmp 6) = .agg #[.bool a1.s, .slice a1.no a1.nn a1.nc, .slice a1.eo a1.en a1.ec] := hd (1, 6) (by simp)
      have e8 : ρ (.tmp 8) = .agg #[.bool b1.s, .slice b1.no b1.nn b1.nc, .slice b1.eo b1.en b1.ec] := hd (3, 8) (by simp)
      refine Goes.call 38 #[.agg #[.bool a1.s, .slice a1.no a1.nn a1.nc, .slice a1.eo a1.en a1.ec], .agg #[.bool b1.s, .slice b1.no b1.nn b1.nc, .slice b1.eo b1.en b1.ec]] (by go_simp) ?_
      refine Calls.mono (ratSub_k (ha.later hC).x (hb.later hC).x (by omega) (by omega) (by omega)) ?_
      rintro e u' ⟨s1, no1, nn1, nc1, eo1, en1, ec1, rfl, cq, lb⟩
      exact ⟨_, rfl, hC.trans (lb.mono hC.size), lb, ⟨s1, no1, nn1, nc1, eo1, en1, ec1, rfl, cq⟩⟩
    · have e2 : ρ (.tmp 2) = .pointer (some ⟨g0, 0, none⟩) := ho 2 (by simp)
      refine Goes.pure (.pointer (some ⟨g0, 3, none⟩)) ?_ ⟨hC, Below.refl _ _, rfl⟩
      unfold Goes
      go_simp
    · have e10 : ρ (.tmp 10) = .pointer (some ⟨g0, 3, none⟩) := hd (5, 10) (by simp)
      obtain ⟨c0, c1, c2⟩ := (x0.later hC).c1
      refine Goes.pure (.agg #[.bool a2.s, .slice a2.no a2.nn a2.nc, .slice a2.eo a2.en a2.ec]) ?_ ⟨hC, Below.refl _ _, rfl⟩
      unfold Goes
      go_simp
    · have e3 : ρ (.tmp 3) = .pointer (some ⟨g1, 0, none⟩) := ho 3 (by simp)
      refine Goes.pure (.pointer (some ⟨g1, 3, none⟩)) ?_ ⟨hC, Below.refl _ _, rfl⟩
      unfold Goes
      go_simp
    · have e12 : ρ (.tmp 12) = .pointer (some ⟨g1, 3, none⟩) := hd (7, 12) (by simp)
      obtain ⟨c0, c1, c2⟩ := (x1.later hC).c1
      refine Goes.pure (.agg #[.bool b2.s, .slice b2.no b2.nn b2.nc, .slice b2.eo b2.en b2.ec]) ?_ ⟨hC, Below.refl _ _, rfl⟩
      unfold Goes
      go_simp
    · have e11 : ρ (.tmp 11) = .agg #[.bool a2.s, .slice a2.no a2.nn a2.nc, .slice a2.eo a2.en a2.ec] := hd (6, 11) (by simp)
      have e13 : ρ (.tmp 13) = .agg #[.bool b2.s, .slice b2.no b2.nn b2.nc, .slice b2.eo b2.en b2.ec] := hd (8, 13) (by simp)
      refine Goes.call 38 #[.agg #[.bool a2.s, .slice a2.no a2.nn a2.nc, .slice a2.eo a2.en a2.ec], .agg #[.bool b2.s, .slice b2.no b2.nn b2.nc, .slice b2.eo b2.en b2.ec]] (by go_simp) ?_
      refine Calls.mono (ratSub_k (ha.later hC).y (hb.later hC).y (by omega) (by omega) (by omega)) ?_
      rintro e u' ⟨s1, no1, nn1, nc1, eo1, en1, ec1, rfl, cq, lb⟩
      exact ⟨_, rfl, hC.trans (lb.mono hC.size), lb, ⟨s1, no1, nn1, nc1, eo1, en1, ec1, rfl, cq⟩⟩
    · have e2 : ρ (.tmp 2) = .pointer (some ⟨g0, 0, none⟩) := ho 2 (by simp)
      refine Goes.pure (.pointer (some ⟨g0, 6, none⟩)) ?_ ⟨hC, Below.refl _ _, rfl⟩
      unfold Goes
      go_simp
    · have e15 : ρ (.tmp 15) = .pointer (some ⟨g0, 6, none⟩) := hd (10, 15) (by simp)
      obtain ⟨c0, c1, c2⟩ := (x0.later hC).c2
      refine Goes.pure (.agg #[.bool a3.s, .slice a3.no a3.nn a3.nc, .slice a3.eo a3.en a3.ec]) ?_ ⟨hC, Below.refl _ _, rfl⟩
      unfold Goes
      go_simp
    · have e3 : ρ (.tmp 3) = .pointer (some ⟨g1, 0, none⟩) := ho 3 (by simp)
      refine Goes.pure (.pointer (some ⟨g1, 6, none⟩)) ?_ ⟨hC, Below.refl _ _, rfl⟩
      unfold Goes
      go_simp
    · have e17 : ρ (.tmp 17) = .pointer (some ⟨g1, 6, none⟩) := hd (12, 17) (by simp)
      obtain ⟨c0, c1, c2⟩ := (x1.later hC).c2
      refine Goes.pure (.agg #[.bool b3.s, .slice b3.no b3.nn b3.nc, .slice b3.eo b3.en b3.ec]) ?_ ⟨hC, Below.refl _ _, rfl⟩
      unfold Goes
      go_simp
    · have e16 : ρ (.tmp 16) = .agg #[.bool a3.s, .slice a3.no a3.nn a3.nc, .slice a3.eo a3.en a3.ec] := hd (11, 16) (by simp)
      have e18 : ρ (.tmp 18) = .agg #[.bool b3.s, .slice b3.no b3.nn b3.nc, .slice b3.eo b3.en b3.ec] := hd (13, 18) (by simp)
      refine Goes.call 38 #[.agg #[.bool a3.s, .slice a3.no a3.nn a3.nc, .slice a3.eo a3.en a3.ec], .agg #[.bool b3.s, .slice b3.no b3.nn b3.nc, .slice b3.eo b3.en b3.ec]] (by go_simp) ?_
      refine Calls.mono (ratSub_k (ha.later hC).z (hb.later hC).z (by omega) (by omega) (by omega)) ?_
      rintro e u' ⟨s1, no1, nn1, nc1, eo1, en1, ec1, rfl, cq, lb⟩
      exact ⟨_, rfl, hC.trans (lb.mono hC.size), lb, ⟨s1, no1, nn1, nc1, eo1, en1, ec1, rfl, cq⟩⟩
    · obtain ⟨s9, no9, nn9, nc9, eo9, en9, ec9, e9, k9⟩ : VC (qa1 - (qb1)) (K + (L) + 1) (ρ (.tmp 9)) u := hd (4, 9) (by simp)
      obtain ⟨s14, no14, nn14, nc14, eo14, en14, ec14, e14, k14⟩ : VC (qa2 - (qb2)) (K + (L) + 1) (ρ (.tmp 14)) u := hd (9, 14) (by simp)
      obtain ⟨s19, no19, nn19, nc19, eo19, en19, ec19, e19, k19⟩ : VC (qa3 - (qb3)) (K + (L) + 1) (ρ (.tmp 19)) u := hd (14, 19) (by simp)
      refine Goes.pure (.agg #[.bool s9, .slice no9 nn9 nc9, .slice eo9 en9 ec9, .bool s14, .slice no14 nn14 nc14, .slice eo14 en14 ec14, .bool s19, .slice no19 nn19 nc19, .slice eo19 en19 ec19]) ?_ ⟨hC, Below.refl _ _, ⟨⟨s9, no9, nn9, nc9, eo9, en9, ec9⟩, ⟨s14, no14, nn14, nc14, eo14, en14, ec14⟩, ⟨s19, no19, nn19, nc19, eo19, en19, ec19⟩, rfl, k9.mono (by omega), k14.mono (by omega), k19.mono (by omega)⟩⟩
      unfold Goes
      go_simp
  · intro vs u hC hv
    obtain ⟨ra, rb, rc, eR, cv⟩ : VG (qa1 - (qb1)) (qa2 - (qb2)) (qa3 - (qb3)) (K + (L) + 1) (vs 15) u := hv 15 (by omega)
    have xr := x2.later hC
    obtain ⟨c0, c1, c2⟩ := xr.c0
    obtain ⟨c3, c4, c5⟩ := xr.c1
    obtain ⟨c6, c7, c8⟩ := xr.c2
    have f0 := xr.free 0
    have f1 := xr.free 1
    have f2 := xr.free 2
    have f3 := xr.free 3
    have f4 := xr.free 4
    have f5 := xr.free 5
    have f6 := xr.free 6
    have f7 := xr.free 7
    have f8 := xr.free 8
    clear hv
    simp only [puts, List.take, List.drop, Act.put, List.setIfInBounds_toArray, List.set_cons_succ, List.set_cons_zero, Nat.reduceAdd, eR]
    go_wp2
    exact ret_storeV rfl rfl rfl xr HG.out (cv.tb (((ha.x.bdv K1).sub (hb.x.bdv L1)).mono (by omega)) (((ha.y.bdv K1).sub (hb.y.bdv L1)).mono (by omega)) (((ha.z.bdv K1).sub (hb.z.bdv L1)).mono (by omega))) (b0.trans (hC.mono b0.size))
set_option maxRecDepth 100000 in
set_option maxHeartbeats 8000000 in
theorem vscale_k {w : World} {k : RP} {qk : Rat} {a1 a2 a3 : RP} {qa1 qa2 qa3 : Rat} {K L : Nat} (hk0 : Qp w k qk K) (ha0 : Qv w a1 a2 a3 qa1 qa2 qa3 L) (K1 : 1 ≤ K) (L1 : 1 ≤ L) (hK : K + L + 1 ≤ 1073741824) :
    Calls Try.prog 14 #[.agg #[.bool k.s, .slice k.no k.nn k.nc, .slice k.eo k.en k.ec], .agg #[.bool a1.s, .slice a1.no a1.nn a1.nc, .slice a1.eo a1.en a1.ec, .bool a2.s, .slice a2.no a2.nn a2.nc, .slice a2.eo a2.en a2.ec, .bool a3.s, .slice a3.no a3.nn a3.nc, .slice a3.eo a3.en a3.ec]] w (Gv3 w (K + L) (qk * qa1) (qk * qa2) (qk * qa3)) := by
  obtain ⟨w0, hw0, x0, x1, x2, b0⟩ := bx_RVv w k a1 a2 a3
  have hk := hk0.later b0
  clear hk0
  have ha := ha0.later b0
  clear ha0
  obtain ⟨g0, hg0⟩ : ∃ g0, g0 = w.heap.size := ⟨_, rfl⟩
  obtain ⟨g1, hg1⟩ : ∃ g1, g1 = w.heap.size + 1 := ⟨_, rfl⟩
  obtain ⟨g2, hg2⟩ : ∃ g2, g2 = w.heap.size + 2 := ⟨_, rfl⟩
  have HG : Hid (w.heap.size ≤ g2) := by show w.heap.size ≤ g2; omega
  go_enter Try.func14, Try.ntmps14
  go_wp2
  rw [← hw0, ← hg2, ← hg1, ← hg0]
  rw [← hg0] at x0
  rw [← hg1] at x1
  rw [← hg2] at x2
  clear hw0 hg0 hg1 hg2
  have HLst : Lst [VV (.agg #[.bool k.s, .slice k.no k.nn k.nc, .slice k.eo k.en k.ec]), VV (.pointer (some ⟨g1, 0, none⟩)), VV (.agg #[.bool a1.s, .slice a1.no a1.nn a1.nc, .slice a1.eo a1.en a1.ec]), VL [qk, qa1] (K + L), VC (qk * qa1) (2 * (K + L + 1) + 1), VV (.agg #[.bool k.s, .slice k.no k.nn k.nc, .slice k.eo k.en k.ec]), VV (.pointer (some ⟨g1, 3, none⟩)), VV (.agg #[.bool a2.s, .slice a2.no a2.nn a2.nc, .slice a2.eo a2.en a2.ec]), VL [qk, qa2] (K + L), VC (qk * qa2) (2 * (K + L + 1) + 1), VV (.agg #[.bool k.s, .slice k.no k.nn k.nc, .slice k.eo k.en k.ec]), VV (.pointer (some ⟨g1, 6, none⟩)), VV (.agg #[.bool a3.s, .slice a3.no a3.nn a3.nc, .slice a3.eo a3.en a3.ec]), VL [qk, qa3] (K + L), VC (qk * qa3) (2 * (K + L + 1) + 1), VG (qk * qa1) (qk * qa2) (qk * qa3) (2 * (K + L + 1) + 1)] := ⟨VV.lasts _, VV.lasts _, VV.lasts _, VL.lasts _ _, VC.lasts _ _, VV.lasts _, VV.lasts _, VV.lasts _, VL.lasts _ _, VC.lasts _ _, VV.lasts _, VV.lasts _, VV.lasts _, VL.lasts _ _, VC.lasts _ _, VG.lasts _ _ _ _, trivial⟩
  refine wp_region_kahn 16 21 [([], [2]), ([], [3]), ([(1, 6)], []), ([(0, 5), (2, 7)], []), ([(3, 8)], []), ([], [2]), ([], [3]), ([(6, 11)], []), ([(5, 10), (7, 12)], []), ([(8, 13)], []), ([], [2]), ([], [3]), ([(11, 16)], []), ([(10, 15), (12, 17)], []), ([(13, 18)], []), ([(4, 9), (9, 14), (14, 19)], [])]
    (fun u => Below w0.heap.size w0 u) (fun u u' => Below u.heap.size u u')
    (Sp [VV (.agg #[.bool k.s, .slice k.no k.nn k.nc, .slice k.eo k.en k.ec]), VV (.pointer (some ⟨g1, 0, none⟩)), VV (.agg #[.bool a1.s, .slice a1.no a1.nn a1.nc, .slice a1.eo a1.en a1.ec]), VL [qk, qa1] (K + L), VC (qk * qa1) (2 * (K + L + 1) + 1), VV (.agg #[.bool k.s, .slice k.no k.nn k.nc, .slice k.eo k.en k.ec]), VV (.pointer (some ⟨g1, 3, none⟩)), VV (.agg #[.bool a2.s, .slice a2.no a2.nn a2.nc, .slice a2.eo a2.en a2.ec]), VL [qk, qa2] (K + L), VC (qk * qa2) (2 * (K + L + 1) + 1), VV (.agg #[.bool k.s, .slice k.no k.nn k.nc, .slice k.eo k.en k.ec]), VV (.pointer (some ⟨g1, 6, none⟩)), VV (.agg #[.bool a3.s, .slice a3.no a3.nn a3.nc, .slice a3.eo a3.en a3.ec]), VL [qk, qa3] (K + L), VC (qk * qa3) (2 * (K + L + 1) + 1), VG (qk * qa1) (qk * qa2) (qk * qa3) (2 * (K + L + 1) + 1)])
    (by kernel_rfl) rfl (by kernel_rfl) (Below.refl _ _).drew (fun k v u u' _ hg hs => Sp.lasts HLst k v u u' hg hs) ?_ ?_
  · clear HLst
    refine ⟨.inl ⟨by simp, fun ρ u hC hc hf hd ho => ?_⟩, .inl ⟨by simp, fun ρ u hC hc hf hd ho => ?_⟩, .inl ⟨by simp, fun ρ u hC hc hf hd ho => ?_⟩, .inl ⟨by simp, fun ρ u hC hc hf hd ho => ?_⟩, .inl ⟨by simp, fun ρ u hC hc hf hd ho => ?_⟩, .inl ⟨by simp, fun ρ u hC hc hf hd ho => ?_⟩, .inl ⟨by simp, fun ρ u hC hc hf hd ho => ?_⟩, .inl ⟨by simp, fun ρ u hC hc hf hd ho => ?_⟩, .inl ⟨by simp, fun ρ u hC hc hf hd ho => ?_⟩, .inl ⟨by simp, fun ρ u hC hc hf hd ho => ?_⟩, .inl ⟨by simp, fun ρ u hC hc hf hd ho => ?_⟩, .inl ⟨by simp, fun ρ u hC hc hf hd ho => ?_⟩, .inl ⟨by simp, fun ρ u hC hc hf hd ho => ?_⟩, .inl ⟨by simp, fun ρ u hC hc hf hd ho => ?_⟩, .inl ⟨by simp, fun ρ u hC hc hf hd ho => ?_⟩, .inl ⟨by simp, fun ρ u hC hc hf hd ho => ?_⟩, trivial⟩
    · have e2 : ρ (.tmp 2) = .pointer (some ⟨g0, 0, none⟩) := ho 2 (by simp)
      obtain ⟨c0, c1, c2⟩ := (x0.later hC).cells
      refine Goes.pure (.agg #[.bool k.s, .slice k.no k.nn k.nc, .slice k.eo k.en k.ec]) ?_ ⟨hC, Below.refl _ _, rfl⟩
      unfold Goes
      go_simp
    · have e3 : ρ (.tmp 3) = .pointer (some ⟨g1, 0, none⟩) := ho 3 (by simp)
      refine Goes.pure (.pointer (some ⟨g1, 0, none⟩)) ?_ ⟨hC, Below.refl _ _, rfl⟩
      unfold Goes
      go_simp
    · have e6 : ρ (.tmp 6) = .pointer (some ⟨g1, 0, none⟩) := hd (1, 6) (by simp)
      obtain ⟨c0, c1, c2⟩ := (x1.later hC).c0
      refine Goes.pure (.agg #[.bool a1.s, .slice a1.no a1.nn a1.nc, .slice a1.eo a1.en a1.ec]) ?_ ⟨hC, Below.refl _ _, rfl⟩
      unfold Goes
      go_simp
    · have e5 : ρ (.tmp 5) = .agg #[.bool k.s, .slice k.no k.nn k.nc, .slice k.eo k.en k.ec] := hd (0, 5) (by simp)
      have e7 : ρ (.tmp 7) = .agg #[.bool a1.s, .slice a1.no a1.nn a1.nc, .slice a1.eo a1.en a1.ec] := hd (2, 7) (by simp)
      have lb : Below u.heap.size u (u.alloc (.cells #[.bool k.s, .slice k.no k.nn k.nc, .slice k.eo k.en k.ec, .bool a1.s, .slice a1.no a1.nn a1.nc, .slice a1.eo a1.en a1.ec] 24)) := (Below.refl _ _).alloc (Nat.le_refl _) _
      refine Goes.run (.slice (some ⟨u.heap.size, 0, none⟩) 2 2) (u.alloc (.cells #[.bool k.s, .slice k.no k.nn k.nc, .slice k.eo k.en k.ec, .bool a1.s, .slice a1.no a1.nn a1.nc, .slice a1.eo a1.en a1.ec] 24)) (by go_simp) ⟨hC.trans (lb.mono hC.size), lb, ?_⟩
      exact VL.made [⟨k.s, k.no, k.nn, k.nc, k.eo, k.en, k.ec⟩, ⟨a1.s, a1.no, a1.nn, a1.nc, a1.eo, a1.en, a1.ec⟩] [qk, qa1] ⟨(hk.later hC).mono (by omega), (ha.later hC).x.mono (by omega), trivial⟩ _ rfl 2 rfl
    · have k8 : VL [qk, qa1] (K + L) (ρ (.tmp 8)) u := hd (3, 8) (by simp)
      refine Goes.call 29 #[ρ (.tmp 8)] (by go_simp) ?_
      refine Calls.mono (ratProduct_k k8 (by omega) (by simp only [List.length_cons, List.length_nil]; omega)) ?_
      rintro e u' ⟨s1, no1, nn1, nc1, eo1, en1, ec1, rfl, cq, lb⟩
      exact ⟨_, rfl, hC.trans (lb.mono hC.size), lb, ⟨s1, no1, nn1, nc1, eo1, en1, ec1, rfl, by rw [qprod2] at cq; exact cq.mono (by simp only [List.length_cons, List.length_nil]; omega)⟩⟩
    · have e2 : ρ (.tmp 2) = .pointer (some ⟨g0, 0, none⟩) := ho 2 (by simp)
      obtain ⟨c0, c1, c2⟩ := (x0.later hC).cells
      refine Goes.pure (.agg #[.bool k.s, .slice k.no k.nn k.nc, .slice k.eo k.en k.ec]) ?_ ⟨hC, Below.refl _ _, rfl⟩
      unfold Goes
      go_simp
    · have e3 : ρ (.tmp 3) = .pointer (some ⟨g1, 0, none⟩) := ho 3 (by simp)
      refine Goes.pure (.pointer (some ⟨g1, 3, none⟩)) ?_ ⟨hC, Below.refl _ _, rfl⟩
      unfold Goes
      go_simp
    · have e11 : ρ (.tmp 11) = .pointer (some ⟨g1, 3, none⟩) := hd (6, 11) (by simp)
      obtain ⟨c0, c1, c2⟩ := (x1.later hC).c1
      refine Goes.pure (.agg #[.bool a2.s, .slice a2.no a2.nn a2.nc, .slice a2.eo a2.en a2.ec]) ?_ ⟨hC, Below.refl _ _, rfl⟩
      unfold Goes
      go_simp
    · have e10 : ρ (.tmp 10) = .agg #[.bool k.s, .slice k.no k.nn k.nc, .slice k.eo k.en k.ec] := hd (5, 10) (by simp)
      have e12 : ρ (.tmp 12) = .agg #[.bool a2.s, .slice a2.no a2.nn a2.nc, .slice a2.eo a2.en a2.ec] := hd (7, 12) (by simp)
      have lb : Below u.heap.size u (u.alloc (.cells #[.bool k.s, .slice k.no k.nn k.nc, .slice k.eo k.en k.ec, .bool a2.s, .slice a2.no a2.nn a2.nc, .slice a2.eo a2.en a2.ec] 24)) := (Below.refl _ _).alloc (Nat.le_refl _) _
      refine Goes.run (.slice (some ⟨u.heap.size, 0, none⟩) 2 2) (u.alloc (.cells #[.bool k.s, .slice k.no k.nn k.nc, .slice k.eo k.en k.ec, .bool a2.s, .slice a2.no a2.nn a2.nc, .slice a2.eo a2.en a2.ec] 24)) (by go_simp) ⟨hC.trans (lb.mono hC.size), lb, ?_⟩
      exact VL.made [⟨k.s, k.no, k.nn, k.nc, k.eo, k.en, k.ec⟩, ⟨a2.s, a2.no, a2.nn, a2.nc, a2.eo, a2.en, a2.ec⟩] [qk, qa2] ⟨(hk.later hC).mono (by omega), (ha.later hC).y.mono (by omega), trivial⟩ _ rfl 2 rfl
    · have k13 : VL [qk, qa2] (K + L) (ρ (.tmp 13)) u := hd (8, 13) (by simp)
      refine Goes.call 29 #[ρ (.tmp 13)] (by go_simp) ?_
      refine Calls.mono (ratProduct_k k13 (by omega) (by simp only [List.length_cons, List.length_nil]; omega)) ?_
      rintro e u' ⟨s1, no1, nn1, nc1, eo1, en1, ec1, rfl, cq, lb⟩
      exact ⟨_, rfl, hC.trans (lb.mono hC.size), lb, ⟨s1, no1, nn1, nc1, eo1, en1, ec1, rfl, by rw [qprod2] at cq; exact cq.mono (by simp only [List.length_cons, List.length_nil]; omega)⟩⟩
    · have e2 : ρ (.tmp 2) = .pointer (some ⟨g0, 0, none⟩) := ho 2 (by simp)
      obtain ⟨c0, c1, c2⟩ := (x0.later hC).cells
      refine Goes.pure (.agg #[.bool k.s, .slice k.no k.nn k.nc, .slice k.eo k.en k.ec]) ?_ ⟨hC, Below.refl _ _, rfl⟩
      unfold Goes
      go_simp
    · have e3 : ρ (.tmp 3) = .pointer (some ⟨g1, 0, none⟩) := ho 3 (by simp)
      refine Goes.pure (.pointer (some ⟨g1, 6, none⟩)) ?_ ⟨hC, Below.refl _ _, rfl⟩
      unfold Goes
      go_simp
    · have e16 : ρ (.tmp 16) = .pointer (some ⟨g1, 6, none⟩) := hd (11, 16) (by simp)
      obtain ⟨c0, c1, c2⟩ := (x1.later hC).c2
      refine Goes.pure (.agg #[.bool a3.s, .slice a3.no a3.nn a3.nc, .slice a3.eo a3.en a3.ec]) ?_ ⟨hC, Below.refl _ _, rfl⟩
      unfold Goes
      go_simp
    · have e15 : ρ (.tmp 15) = .agg #[.bool k.s, .slice k.no k.nn k.nc, .slice k.eo k.en k.ec] := hd (10, 15) (by simp)
      have e17 : ρ (.tmp 17) = .agg #[.bool a3.s, .slice a3.no a3.nn a3.nc, .slice a3.eo a3.en a3.ec] := hd (12, 17) (by simp)
      have lb : Below u.heap.size u (u.alloc (.cells #[.bool k.s, .slice k.no k.nn k.nc, .slice k.eo k.en k.ec, .bool a3.s, .slice a3.no a3.nn a3.nc, .slice a3.eo a3.en a3.ec] 24)) := (Below.refl _ _).alloc (Nat.le_refl _) _
      refine Goes.run (.slice (some ⟨u.heap.size, 0, none⟩) 2 2) (u.alloc (.cells #[.bool k.s, .slice k.no k.nn k.nc, .slice k.eo k.en k.ec, .bool a3.s, .slice a3.no a3.nn a3.nc, .slice a3.eo a3.en a3.ec] 24)) (by go_simp) ⟨hC.trans (lb.mono hC.size), lb, ?_⟩
      exact VL.made [⟨k.s, k.no, k.nn, k.nc, k.eo, k.en, k.ec⟩, ⟨a3.s, a3.no, a3.nn, a3.nc, a3.eo, a3.en, a3.ec⟩] [qk, qa3] ⟨(hk.later hC).mono (by omega), (ha.later hC).z.mono (by omega), trivial⟩ _ rfl 2 rfl
    · have k18 : VL [qk, qa3] (K + L) (ρ (.tmp 18)) u := hd (13, 18) (by simp)
      refine Goes.call 29 #[ρ (.tmp 18)] (by go_simp) ?_
      refine Calls.mono (ratProduct_k k18 (by omega) (by simp only [List.length_cons, List.length_nil]; omega)) ?_
      rintro e u' ⟨s1, no1, nn1, nc1, eo1, en1, ec1, rfl, cq, lb⟩
      exact ⟨_, rfl, hC.trans (lb.mono hC.size), lb, ⟨s1, no1, nn1, nc1, eo1, en1, ec1, rfl, by rw [qprod2] at cq; exact cq.mono (by simp only [List.length_cons, List.length_nil]; omega)⟩⟩
    · obtain ⟨s9, no9, nn9, nc9, eo9, en9, ec9, e9, k9⟩ : VC (qk * qa1) (2 * (K + L + 1) + 1) (ρ (.tmp 9)) u := hd (4, 9) (by simp)
      obtain ⟨s14, no14, nn14, nc14, eo14, en14, ec14, e14, k14⟩ : VC (qk * qa2) (2 * (K + L + 1) + 1) (ρ (.tmp 14)) u := hd (9, 14) (by simp)
      obtain ⟨s19, no19, nn19, nc19, eo19, en19, ec19, e19, k19⟩ : VC (qk * qa3) (2 * (K + L + 1) + 1) (ρ (.tmp 19)) u := hd (14, 19) (by simp)
      refine Goes.pure (.agg #[.bool s9, .slice no9 nn9 nc9, .slice eo9 en9 ec9, .bool s14, .slice no14 nn14 nc14, .slice eo14 en14 ec14, .bool s19, .slice no19 nn19 nc19, .slice eo19 en19 ec19]) ?_ ⟨hC, Below.refl _ _, ⟨⟨s9, no9, nn9, nc9, eo9, en9, ec9⟩, ⟨s14, no14, nn14, nc14, eo14, en14, ec14⟩, ⟨s19, no19, nn19, nc19, eo19, en19, ec19⟩, rfl, k9.mono (by omega), k14.mono (by omega), k19.mono (by omega)⟩⟩
      unfold Goes
      go_simp
  · intro vs u hC hv
    obtain ⟨ra, rb, rc, eR, cv⟩ : VG (qk * qa1) (qk * qa2) (qk * qa3) (2 * (K + L + 1) + 1) (vs 15) u := hv 15 (by omega)
    have xr := x2.later hC
    obtain ⟨c0, c1, c2⟩ := xr.c0
    obtain ⟨c3, c4, c5⟩ := xr.c1
    obtain ⟨c6, c7, c8⟩ := xr.c2
    have f0 := xr.free 0
    have f1 := xr.free 1
    have f2 := xr.free 2
    have f3 := xr.free 3
    have f4 := xr.free 4
    have f5 := xr.free 5
    have f6 := xr.free 6
    have f7 := xr.free 7
    have f8 := xr.free 8
    clear hv
    simp only [puts, List.take, List.drop, Act.put, List.setIfInBounds_toArray, List.set_cons_succ, List.set_cons_zero, Nat.reduceAdd, eR]
    go_wp2
    exact ret_storeV rfl rfl rfl xr HG.out (cv.tb (((hk.bdv K1).mul (ha.x.bdv L1)).mono (by omega)) (((hk.bdv K1).mul (ha.y.bdv L1)).mono (by omega)) (((hk.bdv K1).mul (ha.z.bdv L1)).mono (by omega))) (b0.trans (hC.mono b0.size))
set_option maxRecDepth 100000 in
set_option maxHeartbeats 8000000 in
theorem vdot_k {w : World} {a1 a2 a3 : RP} {qa1 qa2 qa3 : Rat} {b1 b2 b3 : RP} {qb1 qb2 qb3 : Rat} {K L : Nat} (ha0 : Qv w a1 a2 a3 qa1 qa2 qa3 K) (hb0 : Qv w b1 b2 b3 qb1 qb2 qb3 L) (K1 : 1 ≤ K) (L1 : 1 ≤ L) (hK : K + L ≤ 67108864) :
    Calls Try.prog 17 #[.agg #[.bool a1.s, .slice a1.no a1.nn a1.nc, .slice a1.eo a1.en a1.ec, .bool a2.s, .slice a2.no a2.nn a2.nc, .slice a2.eo a2.en a2.ec, .bool a3.s, .slice a3.no a3.nn a3.nc, .slice a3.eo a3.en a3.ec], .agg #[.bool b1.s, .slice b1.no b1.nn b1.nc, .slice b1.eo b1.en b1.ec, .bool b2.s, .slice b2.no b2.nn b2.nc, .slice b2.eo b2.en b2.ec, .bool b3.s, .slice b3.no b3.nn b3.nc, .slice b3.eo b3.en b3.ec]] w (Gq w (3 * (K + L) + 2) ((qa1 * qb1) + (qa2 * qb2) + (qa3 * qb3))) := by
  obtain ⟨w0, hw0, x0, x1, x2, b0⟩ := bx_VVr w a1 a2 a3 b1 b2 b3
  have ha := ha0.later b0
  clear ha0
  have hb := hb0.later b0
  clear hb0
  obtain ⟨g0, hg0⟩ : ∃ g0, g0 = w.heap.size := ⟨_, rfl⟩
  obtain ⟨g1, hg1⟩ : ∃ g1, g1 = w.heap.size + 1 := ⟨_, rfl⟩
  obtain ⟨g2, hg2⟩ : ∃ g2, g2 = w.heap.size + 2 := ⟨_, rfl⟩
  have HG : Hid (w.heap.size ≤ g2) := by show w.heap.size ≤ g2; omega
  go_enter Try.func17, Try.ntmps17
  go_wp2
  rw [← hw0, ← hg2, ← hg1, ← hg0]
  rw [← hg0] at x0
  rw [← hg1] at x1
  rw [← hg2] at x2
  clear hw0 hg0 hg1 hg2
  have HLst : Lst [VV (.pointer (some ⟨g0, 0, none⟩)), VV (.agg #[.bool a1.s, .slice a1.no a1.nn a1.nc, .slice a1.eo a1.en a1.ec]), VV (.pointer (some ⟨g1, 0, none⟩)), VV (.agg #[.bool b1.s, .slice b1.no b1.nn b1.nc, .slice b1.eo b1.en b1.ec]), VL [qa1, qb1] (K + L), VC (qa1 * qb1) (2 * (K + L + 1) + 1), VV (.pointer (some ⟨g0, 3, none⟩)), VV (.agg #[.bool a2.s, .slice a2.no a2.nn a2.nc, .slice a2.eo a2.en a2.ec]), VV (.pointer (some ⟨g1, 3, none⟩)), VV (.agg #[.bool b2.s, .slice b2.no b2.nn b2.nc, .slice b2.eo b2.en b2.ec]), VL [qa2, qb2] (K + L), VC (qa2 * qb2) (2 * (K + L + 1) + 1), VV (.pointer (some ⟨g0, 6, none⟩)), VV (.agg #[.bool a3.s, .slice a3.no a3.nn a3.nc, .slice a3.eo a3.en a3.ec]), VV (.pointer (some ⟨g1, 6, none⟩)), VV (.agg #[.bool b3.s, .slice b3.no b3.nn b3.nc, .slice b3.eo b3.en b3.ec]), VL [qa3, qb3] (K + L), VC (qa3 * qb3) (2 * (K + L + 1) + 1), VL [qa1 * qb1, qa2 * qb2, qa3 * qb3] (2 * (K + L + 1) + 1), VC ((qa1 * qb1) + (qa2 * qb2) + (qa3 * qb3)) (3 * (2 * (K + L + 1) + 1 + 1) + 1)] := ⟨VV.lasts _, VV.lasts _, VV.lasts _, VV.lasts _, VL.lasts _ _, VC.lasts _ _, VV.lasts _, VV.lasts _, VV.lasts _, VV.lasts _, VL.lasts _ _, VC.lasts _ _, VV.lasts _, VV.lasts _, VV.lasts _, VV.lasts _, VL.lasts _ _, VC.lasts _ _, VL.lasts _ _, VC.lasts _ _, trivial⟩
  refine wp_region_kahn 20 25 [([], [2]), ([(0, 5)], []), ([], [3]), ([(2, 7)], []), ([(1, 6), (3, 8)], []), ([(4, 9)], []), ([], [2]), ([(6, 11)], []), ([], [3]), ([(8, 13)], []), ([(7, 12), (9, 14)], []), ([(10, 15)], []), ([], [2]), ([(12, 17)], []), ([], [3]), ([(14, 19)], []), ([(13, 18), (15, 20)], []), ([(16, 21)], []), ([(5, 10), (11, 16), (17, 22)], []), ([(18, 23)], [])]
    (fun u => Below w0.heap.size w0 u) (fun u u' => Below u.heap.size u u')
    (Sp [VV (.pointer (some ⟨g0, 0, none⟩)), VV (.agg #[.bool a1.s, .slice a1.no a1.nn a1.nc, .slice a1.eo a1.en a1.ec]), VV (.pointer (some ⟨g1, 0, none⟩)), VV (.agg #[.bool b1.s, .slice b1.no b1.nn b1.nc, .slice b1.eo b1.en b1.ec]), VL [qa1, qb1] (K + L), VC (qa1 * qb1) (2 * (K + L + 1) + 1), VV (.pointer (some ⟨g0, 3, none⟩)), VV (.agg #[.bool a2.s, .slice a2.no a2.nn a2.nc, .slice a2.eo a2.en a2.ec]), VV (.pointer (some ⟨g1, 3, none⟩)), VV (.agg #[.bool b2.s, .slice b2.no b2.nn b2.nc, .slice b2.eo b2.en b2.ec]), VL [qa2, qb2] (K + L), VC (qa2 * qb2) (2 * (K + L + 1) + 1), VV (.pointer (some ⟨g0, 6, none⟩)), VV (.agg #[.bool a3.s, .slice a3.no a3.nn a3.nc, .slice a3.eo a3.en a3.ec]), VV (.pointer (some ⟨g1, 6, none⟩)), VV (.agg #[.bool b3.s, .slice b3.no b3.nn b3.nc, .slice b3.eo b3.en b3.ec]), VL [qa3, qb3] (K + L), VC (qa3 * qb3) (2 * (K + L + 1) + 1), VL [qa1 * qb1, qa2 * qb2, qa3 * qb3] (2 * (K + L + 1) + 1), VC ((qa1 * qb1) + (qa2 * qb2) + (qa3 * qb3)) (3 * (2 * (K + L + 1) + 1 + 1) + 1)])
    (by kernel_rfl) rfl (by kernel_rfl) (Below.refl _ _).drew (fun k v u u' _ hg hs => Sp.lasts HLst k v u u' hg hs) ?_ ?_
  · clear HLst
    refine ⟨.inl ⟨by simp, fun ρ u hC hc hf hd ho => ?_⟩, .inl ⟨by simp, fun ρ u hC hc hf hd ho => ?_⟩, .inl ⟨by simp, fun ρ u hC hc hf hd ho => ?_⟩, .inl ⟨by simp, fun ρ u hC hc hf hd ho => ?_⟩, .inl ⟨by simp, fun ρ u hC hc hf hd ho => ?_⟩, .inl ⟨by simp, fun ρ u hC hc hf hd ho => ?_⟩, .inl ⟨by simp, fun ρ u hC hc hf hd ho => ?_⟩, .inl ⟨by simp, fun ρ u hC hc hf hd ho => ?_⟩, .inl ⟨by simp, fun ρ u hC hc hf hd ho => ?_⟩, .inl ⟨by simp, fun ρ u hC hc hf hd ho => ?_⟩, .inl ⟨by simp, fun ρ u hC hc hf hd ho => ?_⟩, .inl ⟨by simp, fun ρ u hC hc hf hd ho => ?_⟩, .inl ⟨by simp, fun ρ u hC hc hf hd ho => ?_⟩, .inl ⟨by simp, fun ρ u hC hc hf hd ho => ?_⟩, .inl ⟨by simp, fun ρ u hC hc hf hd ho => ?_⟩, .inl ⟨by simp, fun ρ u hC hc hf hd ho => ?_⟩, .inl ⟨by simp, fun ρ u hC hc hf hd ho => ?_⟩, .inl ⟨by simp, fun ρ u hC hc hf hd ho => ?_⟩, .inl ⟨by simp, fun ρ u hC hc hf hd ho => ?_⟩, .inl ⟨by simp, fun ρ u hC hc hf hd ho => ?_⟩, trivial⟩
    · have e2 : ρ (.tmp 2) = .pointer (some ⟨g0, 0, none⟩) := ho 2 (by simp)
      refine Goes.pure (.pointer (some ⟨g0, 0, none⟩)) ?_ ⟨hC, Below.refl _ _, rfl⟩
      unfold Goes
      go_simp
    · have e5 : ρ (.tmp 5) = .pointer (some ⟨g0, 0, none⟩) := hd (0, 5) (by simp)
      obtain ⟨c0, c1, c2⟩ := (x0.later hC).c0
      refine Goes.pure (.agg #[.bool a1.s, .slice a1.no a1.nn a1.nc, .slice a1.eo a1.en a1.ec]) ?_ ⟨hC, Below.refl _ _, rfl⟩
      unfold Goes
      go_simp
    · have e3 : ρ (.tmp 3) = .pointer (some ⟨g1, 0, none⟩) := ho 3 (by simp)
      refine Goes.pure (.pointer (some ⟨g1, 0, none⟩)) ?_ ⟨hC, Below.refl _ _, rfl⟩
      unfold Goes
      go_simp
    · have e7 : ρ (.tmp 7) = .pointer (some ⟨g1, 0, none⟩) := hd (2, 7) (by simp)
      obtain ⟨c0, c1, c2⟩ := (x1.later hC).c0
      refine Goes.pure (.agg #[.bool b1.s, .slice b1.no b1.nn b1.nc, .slice b1.eo b1.en b1.ec]) ?_ ⟨hC, Below.refl _ _, rfl⟩
      unfold Goes
      go_simp
    · have e6 : ρ (.tmp 6) = .agg #[.bool a1.s, .slice a1.no a1.nn a1.nc, .slice a1.eo a1.en a1.ec] := hd (1, 6) (by simp)
      have e8 : ρ (.tmp 8) = .agg #[.bool b1.s, .slice b1.no b1.nn b1.nc, .slice b1.eo b1.en b1.ec] := hd (3, 8) (by simp)
      have lb : Below u.heap.size u (u.alloc (.cells #[.bool a1.s, .slice a1.no a1.nn a1.nc, .slice a1.eo a1.en a1.ec, .bool b1.s, .slice b1.no b1.nn b1.nc, .slice b1.eo b1.en b1.ec] 24)) := (Below.refl _ _).alloc (Nat.le_refl _) _
      refine Goes.run (.slice (some ⟨u.heap.size, 0, none⟩) 2 2) (u.alloc (.cells #[.bool a1.s, .slice a1.no a1.nn a1.nc, .slice a1.eo a1.en a1.ec, .bool b1.s, .slice b1.no b1.nn b1.nc, .slice b1.eo b1.en b1.ec] 24)) (by go_simp) ⟨hC.trans (lb.mono hC.size), lb, ?_⟩
      exact VL.made [⟨a1.s, a1.no, a1.nn, a1.nc, a1.eo, a1.en, a1.ec⟩, ⟨b1.s, b1.no, b1.nn, b1.nc, b1.eo, b1.en, b1.ec⟩] [qa1, qb1] ⟨(ha.later hC).x.mono (by omega), (hb.later hC).x.mono (by omega), trivial⟩ _ rfl 2 rfl
    · have k9 : VL [qa1, qb1] (K + L) (ρ (.tmp 9)) u := hd (4, 9) (by simp)
      refine Goes.call 29 #[ρ (.tmp 9)] (by go_simp) ?_
      refine Calls.mono (ratProduct_k k9 (by omega) (by simp only [List.length_cons, List.length_nil]; omega)) ?_
      rintro e u' ⟨s1, no1, nn1, nc1, eo1, en1, ec1, rfl, cq, lb⟩
      exact ⟨_, rfl, hC.trans (lb.mono hC.size), lb, ⟨s1, no1, nn1, nc1, eo1, en1, ec1, rfl, by rw [qprod2] at cq; exact cq.mono (by simp only [List.length_cons, List.length_nil]; omega)⟩⟩
    · have e2 : ρ (.tmp 2) = .pointer (some ⟨g0, 0, none⟩) := ho 2 (by simp)
      refine Goes.pure (.pointer (some ⟨g0, 3, none⟩)) ?_ ⟨hC, Below.refl _ _, rfl⟩
      unfold Goes
      go_simp
    · have e11 : ρ (.tmp 11) = .pointer (some ⟨g0, 3, none⟩) := hd (6, 11) (by simp)
      obtain ⟨c0, c1, c2⟩ := (x0.later hC).c1
      refine Goes.pure (.agg #[.bool a2.s, .slice a2.no a2.nn a2.nc, .slice a2.eo a2.en a2.ec]) ?_ ⟨hC, Below.refl _ _, rfl⟩
      unfold Goes
      go_simp
    · have e3 : ρ (.tmp 3) = .pointer (some ⟨g1, 0, none⟩) := ho 3 (by simp)
      refine Goes.pure (.pointer (some ⟨g1, 3, none⟩)) ?_ ⟨hC, Below.refl _ _, rfl⟩
      unfold Goes
      go_simp
    · have e13 : ρ (.tmp 13) = .pointer (some ⟨g1, 3, none⟩) := hd (8, 13) (by simp)
      obtain ⟨c0, c1, c2⟩ := (x1.later hC).c1
      refine Goes.pure (.agg #[.bool b2.s, .slice b2.no b2.nn b2.nc, .slice b2.eo b2.en b2.ec]) ?_ ⟨hC, Below.refl _ _, rfl⟩
      unfold Goes
      go_simp
    · have e12 : ρ (.tmp 12) = .agg #[.bool a2.s, .slice a2.no a2.nn a2.nc, .slice a2.eo a2.en a2.ec] := hd (7, 12) (by simp)
      have e14 : ρ (.tmp 14) = .agg #[.bool b2.s, .slice b2.no b2.nn b2.nc, .slice b2.eo b2.en b2.ec] := hd (9, 14) (by simp)
      have lb : Below u.heap.size u (u.alloc (.cells #[.bool a2.s, .slice a2.no a2.nn a2.nc, .slice a2.eo a2.en a2.ec, .bool b2.s, .slice b2.no b2.nn b2.nc, .slice b2.eo b2.en b2.ec] 24)) := (Below.refl _ _).alloc (Nat.le_refl _) _
      refine Goes.run (.slice (some ⟨u.heap.size, 0, none⟩) 2 2) (u.alloc (.cells #[.bool a2.s, .slice a2.no a2.nn a2.nc, .slice a2.eo a2.en a2.ec, .bool b2.s, .slice b2.no b2.nn b2.nc, .slice b2.eo b2.en b2.ec] 24)) (by go_simp) ⟨hC.trans (lb.mono hC.size), lb, ?_⟩
      exact VL.made [⟨a2.s, a2.no, a2.nn, a2.nc, a2.eo, a2.en, a2.ec⟩, ⟨b2.s, b2.no, b2.nn, b2.nc, b2.eo, b2.en, b2.ec⟩] [qa2, qb2] ⟨(ha.later hC).y.mono (by omega), (hb.later hC).y.mono (by omega), trivial⟩ _ rfl 2 rfl
    · have k15 : VL [qa2, qb2] (K + L) (ρ (.tmp 15)) u := hd (10, 15) (by simp)
      refine Goes.call 29 #[ρ (.tmp 15)] (by go_simp) ?_
      refine Calls.mono (ratProduct_k k15 (by omega) (by simp only [List.length_cons, List.length_nil]; omega)) ?_
      rintro e u' ⟨s1, no1, nn1, nc1, eo1, en1, ec1, rfl, cq, lb⟩
      exact ⟨_, rfl, hC.trans (lb.mono hC.size), lb, ⟨s1, no1, nn1, nc1, eo1, en1, ec1, rfl, by rw [qprod2] at cq; exact cq.mono (by simp only [List.length_cons, List.length_nil]; omega)⟩⟩
    · have e2 : ρ (.tmp 2) = .pointer (some ⟨g0, 0, none⟩) := ho 2 (by simp)
      refine Goes.pure (.pointer (some ⟨g0, 6, none⟩)) ?_ ⟨hC, Below.refl _ _, rfl⟩
      unfold Goes
      go_simp
    · have e17 : ρ (.tmp 17) = .pointer (some ⟨g0, 6, none⟩) := hd (12, 17) (by simp)
      obtain ⟨c0, c1, c2⟩ := (x0.later hC).c2
      refine Goes.pure (.agg #[.bool a3.s, .slice a3.no a3.nn a3.nc, .slice a3.eo a3.en a3.ec]) ?_ ⟨hC, Below.refl _ _, rfl⟩
      unfold Goes
      go_simp
    · have e3 : ρ (.tmp 3) = .pointer (some ⟨g1, 0, none⟩) := ho 3 (by simp)
      refine Goes.pure (.pointer (some ⟨g1, 6, none⟩)) ?_ ⟨hC, Below.refl _ _, rfl⟩
      unfold Goes
      go_simp
    · have e19 : ρ (.tmp 19) = .pointer (some ⟨g1, 6, none⟩) := hd (14, 19) (by simp)
      obtain ⟨c0, c1, c2⟩ := (x1.later hC).c2
      refine Goes.pure (.agg #[.bool b3.s, .slice b3.no b3.nn b3.nc, .slice b3.eo b3.en b3.ec]) ?_ ⟨hC, Below.refl _ _, rfl⟩
      unfold Goes
      go_simp
    · have e18 : ρ (.tmp 18) = .agg #[.bool a3.s, .slice a3.no a3.nn a3.nc, .slice a3.eo a3.en a3.ec] := hd (13, 18) (by simp)
      have e20 : ρ (.tmp 20) = .agg #[.bool b3.s, .slice b3.no b3.nn b3.nc, .slice b3.eo b3.en b3.ec] := hd (15, 20) (by simp)
      have lb : Below u.heap.size u (u.alloc (.cells #[.bool a3.s, .slice a3.no a3.nn a3.nc, .slice a3.eo a3.en a3.ec, .bool b3.s, .slice b3.no b3.nn b3.nc, .slice b3.eo b3.en b3.ec] 24)) := (Below.refl _ _).alloc (Nat.le_refl _) _
      refine Goes.run (.slice (some ⟨u.heap.size, 0, none⟩) 2 2) (u.alloc (.cells #[.bool a3.s, .slice a3.no a3.nn a3.nc, .slice a3.eo a3.en a3.ec, .bool b3.s, .slice b3.no b3.nn b3.nc, .slice b3.eo b3.en b3.ec] 24)) (by go_simp) ⟨hC.trans (lb.mono hC.size), lb, ?_⟩
      exact VL.made [⟨a3.s, a3.no, a3.nn, a3.nc, a3.eo, a3.en, a3.ec⟩, ⟨b3.s, b3.no, b3.nn, b3.nc, b3.eo, b3.en, b3.ec⟩] [qa3, qb3] ⟨(ha.later hC).z.mono (by omega), (hb.later hC).z.mono (by omega), trivial⟩ _ rfl 2 rfl
    · have k21 : VL [qa3, qb3] (K + L) (ρ (.tmp 21)) u := hd (16, 21) (by simp)
      refine Goes.call 29 #[ρ (.tmp 21)] (by go_simp) ?_
      refine Calls.mono (ratProduct_k k21 (by omega) (by simp only [List.length_cons, List.length_nil]; omega)) ?_
      rintro e u' ⟨s1, no1, nn1, nc1, eo1, en1, ec1, rfl, cq, lb⟩
      exact ⟨_, rfl, hC.trans (lb.mono hC.size), lb, ⟨s1, no1, nn1, nc1, eo1, en1, ec1, rfl, by rw [qprod2] at cq; exact cq.mono (by simp only [List.length_cons, List.length_nil]; omega)⟩⟩
    · obtain ⟨s10, no10, nn10, nc10, eo10, en10, ec10, e10, k10⟩ : VC (qa1 * qb1) (2 * (K + L + 1) + 1) (ρ (.tmp 10)) u := hd (5, 10) (by simp)
      obtain ⟨s16, no16, nn16, nc16, eo16, en16, ec16, e16, k16⟩ : VC (qa2 * qb2) (2 * (K + L + 1) + 1) (ρ (.tmp 16)) u := hd (11, 16) (by simp)
      obtain ⟨s22, no22, nn22, nc22, eo22, en22, ec22, e22, k22⟩ : VC (qa3 * qb3) (2 * (K + L + 1) + 1) (ρ (.tmp 22)) u := hd (17, 22) (by simp)
      have lb : Below u.heap.size u (u.alloc (.cells #[.bool s10, .slice no10 nn10 nc10, .slice eo10 en10 ec10, .bool s16, .slice no16 nn16 nc16, .slice eo16 en16 ec16, .bool s22, .slice no22 nn22 nc22, .slice eo22 en22 ec22] 24)) := (Below.refl _ _).alloc (Nat.le_refl _) _
      refine Goes.run (.slice (some ⟨u.heap.size, 0, none⟩) 3 3) (u.alloc (.cells #[.bool s10, .slice no10 nn10 nc10, .slice eo10 en10 ec10, .bool s16, .slice no16 nn16 nc16, .slice eo16 en16 ec16, .bool s22, .slice no22 nn22 nc22, .slice eo22 en22 ec22] 24)) (by go_simp) ⟨hC.trans (lb.mono hC.size), lb, ?_⟩
      exact VL.made [⟨s10, no10, nn10, nc10, eo10, en10, ec10⟩, ⟨s16, no16, nn16, nc16, eo16, en16, ec16⟩, ⟨s22, no22, nn22, nc22, eo22, en22, ec22⟩] [qa1 * qb1, qa2 * qb2, qa3 * qb3] ⟨k10.rd.mono (by omega), k16.rd.mono (by omega), k22.rd.mono (by omega), trivial⟩ _ rfl 3 rfl
    · have k23 : VL [qa1 * qb1, qa2 * qb2, qa3 * qb3] (2 * (K + L + 1) + 1) (ρ (.tmp 23)) u := hd (18, 23) (by simp)
      refine Goes.call 28 #[ρ (.tmp 23)] (by go_simp) ?_
      refine Calls.mono (ratSum_k k23 (by omega) (by simp only [List.length_cons, List.length_nil]; omega)) ?_
      rintro e u' ⟨s1, no1, nn1, nc1, eo1, en1, ec1, rfl, cq, lb⟩
      exact ⟨_, rfl, hC.trans (lb.mono hC.size), lb, ⟨s1, no1, nn1, nc1, eo1, en1, ec1, rfl, by rw [qsum3] at cq; exact cq.mono (by simp only [List.length_cons, List.length_nil]; omega)⟩⟩
  · intro vs u hC hv
    obtain ⟨s9, no9, nn9, nc9, eo9, en9, ec9, eR, cq⟩ : VC ((qa1 * qb1) + (qa2 * qb2) + (qa3 * qb3)) (3 * (2 * (K + L + 1) + 1 + 1) + 1) (vs 19) u := hv 19 (by omega)
    have xr := x2.later hC
    obtain ⟨c0, c1, c2⟩ := xr.cells
    have f0 := xr.free 0
    have f1 := xr.free 1
    have f2 := xr.free 2
    clear hv
    simp only [puts, List.take, List.drop, Act.put, List.setIfInBounds_toArray, List.set_cons_succ, List.set_cons_zero, Nat.reduceAdd, eR]
    go_wp2
    exact ret_store rfl rfl rfl xr HG.out (cq.tb (((((ha.x.bdv K1).mul (hb.x.bdv L1)).add ((ha.y.bdv K1).mul (hb.y.bdv L1))).add ((ha.z.bdv K1).mul (hb.z.bdv L1))).mono (by omega))) (b0.trans (hC.mono b0.size))
end Go.Proofs.Ytmbemidacilakaa

/- package vec: lessProduct, Cross, Of. -/
namespace Go.Proofs.Ytmbemidacilakaa
open Go.RowKit M Kahn
set_option maxRecDepth 100000

theorem bx_RRRRr (w : World) (a0 a1 a2 a3 : RP) : ∃ w0, w0 = (((((w.alloc (.cells #[.bool a0.s, .slice a0.no a0.nn a0.nc, .slice a0.eo a0.en a0.ec] 24)).alloc (.cells #[.bool a1.s, .slice a1.no a1.nn a1.nc, .slice a1.eo a1.en a1.ec] 24)).alloc (.cells #[.bool a2.s, .slice a2.no a2.nn a2.nc, .slice a2.eo a2.en a2.ec] 24)).alloc (.cells #[.bool a3.s, .slice a3.no a3.nn a3.nc, .slice a3.eo a3.en a3.ec] 24)).alloc (.cells #[.bool false, .slice none 0 0, .slice none 0 0] 24)) ∧ Rb w0 w.heap.size (.bool a0.s) (.slice a0.no a0.nn a0.nc) (.slice a0.eo a0.en a0.ec) ∧ Rb w0 (w.heap.size + 1) (.bool a1.s) (.slice a1.no a1.nn a1.nc) (.slice a1.eo a1.en a1.ec) ∧ Rb w0 (w.heap.size + 2) (.bool a2.s) (.slice a2.no a2.nn a2.nc) (.slice a2.eo a2.en a2.ec) ∧ Rb w0 (w.heap.size + 3) (.bool a3.s) (.slice a3.no a3.nn a3.nc) (.slice a3.eo a3.en a3.ec) ∧ Rb w0 (w.heap.size + 4) (.bool false) (.slice none 0 0) (.slice none 0 0) ∧ Below w.heap.size w w0 := by
  obtain ⟨w1, h1⟩ : ∃ w1, w1 = w.alloc (.cells #[.bool a0.s, .slice a0.no a0.nn a0.nc, .slice a0.eo a0.en a0.ec] 24) := ⟨_, rfl⟩
  have l1 : Below w.heap.size w w1 := by rw [h1]; exact (Below.refl _ _).alloc (Nat.le_refl _) _
  have z1 : w1.heap.size = w.heap.size + 1 := by rw [h1]; simp
  have r1 : Rb w1 w.heap.size (.bool a0.s) (.slice a0.no a0.nn a0.nc) (.slice a0.eo a0.en a0.ec) := by rw [h1]; exact ⟨heap_alloc_new _ _⟩
  obtain ⟨w2, h2⟩ : ∃ w2, w2 = w1.alloc (.cells #[.bool a1.s, .slice a1.no a1.nn a1.nc, .slice a1.eo a1.en a1.ec] 24) := ⟨_, rfl⟩
  have l2 : Below w1.heap.size w1 w2 := by rw [h2]; exact (Below.refl _ _).alloc (Nat.le_refl _) _
  have z2 : w2.heap.size = w1.heap.size + 1 := by rw [h2]; simp
  have r2 : Rb w2 w1.heap.size (.bool a1.s) (.slice a1.no a1.nn a1.nc) (.slice a1.eo a1.en a1.ec) := by rw [h2]; exact ⟨heap_alloc_new _ _⟩
  obtain ⟨w3, h3⟩ : ∃ w3, w3 = w2.alloc (.cells #[.bool a2.s, .slice a2.no a2.nn a2.nc, .slice a2.eo a2.en a2.ec] 24) := ⟨_, rfl⟩
  have l3 : Below w2.heap.size w2 w3 := by rw [h3]; exact (Below.refl _ _).alloc (Nat.le_refl _) _
  have z3 : w3.heap.size = w2.heap.size + 1 := by rw [h3]; simp
  have r3 : Rb w3 w2.heap.size (.bool a2.s) (.slice a2.no a2.nn a2.nc) (.slice a2.eo a2.en a2.ec) := by rw [h3]; exact ⟨heap_alloc_new _ _⟩
  obtain ⟨w4, h4⟩ : ∃ w4, w4 = w3.alloc (.cells #[.bool a3.s, .slice a3.no a3.nn a3.nc, .slice a3.eo a3.en a3.ec] 24) := ⟨_, rfl⟩
  have l4 : Below w3.heap.size w3 w4 := by rw [h4]; exact (Below.refl _ _).alloc (Nat.le_refl _) _
  have z4 : w4.heap.size = w3.heap.size + 1 := by rw [h4]; simp
  have r4 : Rb w4 w3.heap.size (.bool a3.s) (.slice a3.no a3.nn a3.nc) (.slice a3.eo a3.en a3.ec) := by rw [h4]; exact ⟨heap_alloc_new _ _⟩
  obtain ⟨w5, h5⟩ : ∃ w5, w5 = w4.alloc (.cells #[.bool false, .slice none 0 0, .slice none 0 0] 24) := ⟨_, rfl⟩
  have l5 : Below w4.heap.size w4 w5 := by rw [h5]; exact (Below.refl _ _).alloc (Nat.le_refl _) _
  have z5 : w5.heap.size = w4.heap.size + 1 := by rw [h5]; simp
  have r5 : Rb w5 w4.heap.size (.bool false) (.slice none 0 0) (.slice none 0 0) := by rw [h5]; exact ⟨heap_alloc_new _ _⟩
  replace r1 := r1.later l2
  replace r1 := r1.later l3
  replace r1 := r1.later l4
  replace r1 := r1.later l5
  replace r2 := r2.later l3
  replace r2 := r2.later l4
  replace r2 := r2.later l5
  replace r3 := r3.later l4
  replace r3 := r3.later l5
  replace r4 := r4.later l5
  have b1 := l1
  have b2 := b1.trans (l2.mono b1.size)
  have b3 := b2.trans (l3.mono b2.size)
  have b4 := b3.trans (l4.mono b3.size)
  have b5 := b4.trans (l5.mono b4.size)
  rw [show w1.heap.size = w.heap.size + 1 from by omega] at r2
  rw [show w2.heap.size = w.heap.size + 2 from by omega] at r3
  rw [show w3.heap.size = w.heap.size + 3 from by omega] at r4
  rw [show w4.heap.size = w.heap.size + 4 from by omega] at r5
  exact ⟨w5, by rw [h5, h4, h3, h2, h1], r1, r2, r3, r4, r5, b5⟩
set_option maxRecDepth 100000 in
set_option maxHeartbeats 8000000 in
theorem lessProduct_k {w : World} {a : RP} {qa : Rat} {b : RP} {qb : Rat} {x : RP} {qx : Rat} {y : RP} {qy : Rat} {K L : Nat} (ha0 : Qp w a qa K) (hb0 : Qp w b qb L) (hx0 : Qp w x qx K) (hy0 : Qp w y qy L) (K1 : 1 ≤ K) (L1 : 1 ≤ L) (hK : K + L ≤ 67108864) :
    Calls Try.prog 42 #[.agg #[.bool a.s, .slice a.no a.nn a.nc, .slice a.eo a.en a.ec], .agg #[.bool b.s, .slice b.no b.nn b.nc, .slice b.eo b.en b.ec], .agg #[.bool x.s, .slice x.no x.nn x.nc, .slice x.eo x.en x.ec], .agg #[.bool y.s, .slice y.no y.nn y.nc, .slice y.eo y.en y.ec]] w (Gq w (K + L + (K + L) + 1) (qa * qb - (qx * qy))) := by
  obtain ⟨w0, hw0, x0, x1, x2, x3, x4, b0⟩ := bx_RRRRr w a b x y
  have ha := ha0.later b0
  clear ha0
  have hb := hb0.later b0
  clear hb0
  have hx := hx0.later b0
  clear hx0
  have hy := hy0.later b0
  clear hy0
  obtain ⟨g0, hg0⟩ : ∃ g0, g0 = w.heap.size := ⟨_, rfl⟩
  obtain ⟨g1, hg1⟩ : ∃ g1, g1 = w.heap.size + 1 := ⟨_, rfl⟩
  obtain ⟨g2, hg2⟩ : ∃ g2, g2 = w.heap.size + 2 := ⟨_, rfl⟩
  obtain ⟨g3, hg3⟩ : ∃ g3, g3 = w.heap.size + 3 := ⟨_, rfl⟩
  obtain ⟨g4, hg4⟩ : ∃ g4, g4 = w.heap.size + 4 := ⟨_, rfl⟩
  have HG : Hid (w.heap.size ≤ g4) := by show w.heap.size ≤ g4; omega
  go_enter Try.func42, Try.ntmps42
  go_wp2
  rw [← hw0, ← hg4, ← hg3, ← hg2, ← hg1, ← hg0]
  rw [← hg0] at x0
  rw [← hg1] at x1
  rw [← hg2] at x2
  rw [← hg3] at x3
  rw [← hg4] at x4
  clear hw0 hg0 hg1 hg2 hg3 hg4
  have HLst : Lst [VV (.agg #[.bool a.s, .slice a.no a.nn a.nc, .slice a.eo a.en a.ec]), VV (.agg #[.bool b.s, .slice b.no b.nn b.nc, .slice b.eo b.en b.ec]), VL [qa, qb] (K + L), VC (qa * qb) (2 * (K + L + 1) + 1), VV (.agg #[.bool x.s, .slice x.no x.nn x.nc, .slice x.eo x.en x.ec]), VV (.agg #[.bool y.s, .slice y.no y.nn y.nc, .slice y.eo y.en y.ec]), VL [qx, qy] (K + L), VC (qx * qy) (2 * (K + L + 1) + 1), VC (qa * qb - (qx * qy)) (2 * (K + L + 1) + 1 + (2 * (K + L + 1) + 1) + 1)] := ⟨VV.lasts _, VV.lasts _, VL.lasts _ _, VC.lasts _ _, VV.lasts _, VV.lasts _, VL.lasts _ _, VC.lasts _ _, VC.lasts _ _, trivial⟩
  refine wp_region_kahn 9 18 [([], [4]), ([], [5]), ([(0, 9), (1, 10)], []), ([(2, 11)], []), ([], [6]), ([], [7]), ([(4, 13), (5, 14)], []), ([(6, 15)], []), ([(3, 12), (7, 16)], [])]
    (fun u => Below w0.heap.size w0 u) (fun u u' => Below u.heap.size u u')
    (Sp [VV (.agg #[.bool a.s, .slice a.no a.nn a.nc, .slice a.eo a.en a.ec]), VV (.agg #[.bool b.s, .slice b.no b.nn b.nc, .slice b.eo b.en b.ec]), VL [qa, qb] (K + L), VC (qa * qb) (2 * (K + L + 1) + 1), VV (.agg #[.bool x.s, .slice x.no x.nn x.nc, .slice x.eo x.en x.ec]), VV (.agg #[.bool y.s, .slice y.no y.nn y.nc, .slice y.eo y.en y.ec]), VL [qx, qy] (K + L), VC (qx * qy) (2 * (K + L + 1) + 1), VC (qa * qb - (qx * qy)) (2 * (K + L + 1) + 1 + (2 * (K + L + 1) + 1) + 1)])
    (by kernel_rfl) rfl (by kernel_rfl) (Below.refl _ _).drew (fun k v u u' _ hg hs => Sp.lasts HLst k v u u' hg hs) ?_ ?_
  · clear HLst
    refine ⟨.inl ⟨by simp, fun ρ u hC hc hf hd ho => ?_⟩, .inl ⟨by simp, fun ρ u hC hc hf hd ho => ?_⟩, .inl ⟨by simp, fun ρ u hC hc hf hd ho => ?_⟩, .inl ⟨by simp, fun ρ u hC hc hf hd ho => ?_⟩, .inl ⟨by simp, fun ρ u hC hc hf hd ho => ?_⟩, .inl ⟨by simp, fun ρ u hC hc hf hd ho => ?_⟩, .inl ⟨by simp, fun ρ u hC hc hf hd ho => ?_⟩, .inl ⟨by simp, fun ρ u hC hc hf hd ho => ?_⟩, .inl ⟨by simp, fun ρ u hC hc hf hd ho => ?_⟩, trivial⟩
    · have e4 : ρ (.tmp 4) = .pointer (some ⟨g0, 0, none⟩) := ho 4 (by simp)
      obtain ⟨c0, c1, c2⟩ := (x0.later hC).cells
      refine Goes.pure (.agg #[.bool a.s, .slice a.no a.nn a.nc, .slice a.eo a.en a.ec]) ?_ ⟨hC, Below.refl _ _, rfl⟩
      unfold Goes
      go_simp
    · have e5 : ρ (.tmp 5) = .pointer (some ⟨g1, 0, none⟩) := ho 5 (by simp)
      obtain ⟨c0, c1, c2⟩ := (x1.later hC).cells
      refine Goes.pure (.agg #[.bool b.s, .slice b.no b.nn b.nc, .slice b.eo b.en b.ec]) ?_ ⟨hC, Below.refl _ _, rfl⟩
      unfold Goes
      go_simp
    · have e9 : ρ (.tmp 9) = .agg #[.bool a.s, .slice a.no a.nn a.nc, .slice a.eo a.en a.ec] := hd (0, 9) (by simp)
      have e10 : ρ (.tmp 10) = .agg #[.bool b.s, .slice b.no b.nn b.nc, .slice b.eo b.en b.ec] := hd (1, 10) (by simp)
      have lb : Below u.heap.size u (u.alloc (.cells #[.bool a.s, .slice a.no a.nn a.nc, .slice a.eo a.en a.ec, .bool b.s, .slice b.no b.nn b.nc, .slice b.eo b.en b.ec] 24)) := (Below.refl _ _).alloc (Nat.le_refl _) _
      refine Goes.run (.slice (some ⟨u.heap.size, 0, none⟩) 2 2) (u.alloc (.cells #[.bool a.s, .slice a.no a.nn a.nc, .slice a.eo a.en a.ec, .bool b.s, .slice b.no b.nn b.nc, .slice b.eo b.en b.ec] 24)) (by go_simp) ⟨hC.trans (lb.mono hC.size), lb, ?_⟩
      exact VL.made [⟨a.s, a.no, a.nn, a.nc, a.eo, a.en, a.ec⟩, ⟨b.s, b.no, b.nn, b.nc, b.eo, b.en, b.ec⟩] [qa, qb] ⟨(ha.later hC).mono (by omega), (hb.later hC).mono (by omega), trivial⟩ _ rfl 2 rfl
    · have k11 : VL [qa, qb] (K + L) (ρ (.tmp 11)) u := hd (2, 11) (by simp)
      refine Goes.call 29 #[ρ (.tmp 11)] (by go_simp) ?_
      refine Calls.mono (ratProduct_k k11 (by omega) (by simp only [List.length_cons, List.length_nil]; omega)) ?_
      rintro e u' ⟨s1, no1, nn1, nc1, eo1, en1, ec1, rfl, cq, lb⟩
      exact ⟨_, rfl, hC.trans (lb.mono hC.size), lb, ⟨s1, no1, nn1, nc1, eo1, en1, ec1, rfl, by rw [qprod2] at cq; exact cq.mono (by simp only [List.length_cons, List.length_nil]; omega)⟩⟩
    · have e6 : ρ (.tmp 6) = .pointer (some ⟨g2, 0, none⟩) := ho 6 (by simp)
      obtain ⟨c0, c1, c2⟩ := (x2.later hC).cells
      refine Goes.pure (.agg #[.bool x.s, .slice x.no x.nn x.nc, .slice x.eo x.en x.ec]) ?_ ⟨hC, Below.refl _ _, rfl⟩
      unfold Goes
      go_simp
    · have e7 : ρ (.tmp 7) = .pointer (some ⟨g3, 0, none⟩) := ho 7 (by simp)
      obtain ⟨c0, c1, c2⟩ := (x3.later hC).cells
      refine Goes.pure (.agg #[.bool y.s, .slice y.no y.nn y.nc, .slice y.eo y.en y.ec]) ?_ ⟨hC, Below.refl _ _, rfl⟩
      unfold Goes
      go_simp
    · have e13 : ρ (.tmp 13) = .agg #[.bool x.s, .slice x.no x.nn x.nc, .slice x.eo x.en x.ec] := hd (4, 13) (by simp)
      have e14 : ρ (.tmp 14) = .agg #[.bool y.s, .slice y.no y.nn y.nc, .slice y.eo y.en y.ec] := hd (5, 14) (by simp)
      have lb : Below u.heap.size u (u.alloc (.cells #[.bool x.s, .slice x.no x.nn x.nc, .slice x.eo x.en x.ec, .bool y.s, .slice y.no y.nn y.nc, .slice y.eo y.en y.ec] 24)) := (Below.refl _ _).alloc (Nat.le_refl _) _
      refine Goes.run (.slice (some ⟨u.heap.size, 0, none⟩) 2 2) (u.alloc (.cells #[.bool x.s, .slice x.no x.nn x.nc, .slice x.eo x.en x.ec, .bool y.s, .slice y.no y.nn y.nc, .slice y.eo y.en y.ec] 24)) (by go_simp) ⟨hC.trans (lb.mono hC.size), lb, ?_⟩
      exact VL.made [⟨x.s, x.no, x.nn, x.nc, x.eo, x.en, x.ec⟩, ⟨y.s, y.no, y.nn, y.nc, y.eo, y.en, y.ec⟩] [qx, qy] ⟨(hx.later hC).mono (by omega), (hy.later hC).mono (by omega), trivial⟩ _ rfl 2 rfl
    · have k15 : VL [qx, qy] (K + L) (ρ (.tmp 15)) u := hd (6, 15) (by simp)
      refine Goes.call 29 #[ρ (.tmp 15)] (by go_simp) ?_
      refine Calls.mono (ratProduct_k k15 (by omega) (by simp only [List.length_cons, List.length_nil]; omega)) ?_
      rintro e u' ⟨s1, no1, nn1, nc1, eo1, en1, ec1, rfl, cq, lb⟩
      exact ⟨_, rfl, hC.trans (lb.mono hC.size), lb, ⟨s1, no1, nn1, nc1, eo1, en1, ec1, rfl, by rw [qprod2] at cq; exact cq.mono (by simp only [List.length_cons, List.length_nil]; omega)⟩⟩
    · obtain ⟨s12, no12, nn12, nc12, eo12, en12, ec12, e12, k12⟩ : VC (qa * qb) (2 * (K + L + 1) + 1) (ρ (.tmp 12)) u := hd (3, 12) (by simp)
      obtain ⟨s16, no16, nn16, nc16, eo16, en16, ec16, e16, k16⟩ : VC (qx * qy) (2 * (K + L + 1) + 1) (ρ (.tmp 16)) u := hd (7, 16) (by simp)
      refine Goes.call 38 #[.agg #[.bool s12, .slice no12 nn12 nc12, .slice eo12 en12 ec12], .agg #[.bool s16, .slice no16 nn16 nc16, .slice eo16 en16 ec16]] (by go_simp) ?_
      refine Calls.mono (ratSub_k k12.rd k16.rd (by omega) (by omega) (by omega)) ?_
      rintro e u' ⟨s1, no1, nn1, nc1, eo1, en1, ec1, rfl, cq, lb⟩
      exact ⟨_, rfl, hC.trans (lb.mono hC.size), lb, ⟨s1, no1, nn1, nc1, eo1, en1, ec1, rfl, cq⟩⟩
  · intro vs u hC hv
    obtain ⟨s9, no9, nn9, nc9, eo9, en9, ec9, eR, cq⟩ : VC (qa * qb - (qx * qy)) (2 * (K + L + 1) + 1 + (2 * (K + L + 1) + 1) + 1) (vs 8) u := hv 8 (by omega)
    have xr := x4.later hC
    obtain ⟨c0, c1, c2⟩ := xr.cells
    have f0 := xr.free 0
    have f1 := xr.free 1
    have f2 := xr.free 2
    clear hv
    simp only [puts, List.take, List.drop, Act.put, List.setIfInBounds_toArray, List.set_cons_succ, List.set_cons_zero, Nat.reduceAdd, eR]
    go_wp2
    exact ret_store rfl rfl rfl xr HG.out (cq.tb ((((ha.bdv K1).mul (hb.bdv L1)).sub ((hx.bdv K1).mul (hy.bdv L1))).mono (by omega))) (b0.trans (hC.mono b0.size))
set_option maxRecDepth 100000 in
set_option maxHeartbeats 8000000 in
theorem vcross_k {w : World} {a1 a2 a3 : RP} {qa1 qa2 qa3 : Rat} {b1 b2 b3 : RP} {qb1 qb2 qb3 : Rat} {K L : Nat} (ha0 : Qv w a1 a2 a3 qa1 qa2 qa3 K) (hb0 : Qv w b1 b2 b3 qb1 qb2 qb3 L) (K1 : 1 ≤ K) (L1 : 1 ≤ L) (hK : K + L ≤ 67108864) :
    Calls Try.prog 19 #[.agg #[.bool a1.s, .slice a1.no a1.nn a1.nc, .slice a1.eo a1.en a1.ec, .bool a2.s, .slice a2.no a2.nn a2.nc, .slice a2.eo a2.en a2.ec, .bool a3.s, .slice a3.no a3.nn a3.nc, .slice a3.eo a3.en a3.ec], .agg #[.bool b1.s, .slice b1.no b1.nn b1.nc, .slice b1.eo b1.en b1.ec, .bool b2.s, .slice b2.no b2.nn b2.nc, .slice b2.eo b2.en b2.ec, .bool b3.s, .slice b3.no b3.nn b3.nc, .slice b3.eo b3.en b3.ec]] w (Gv3 w (K + L + (K + L) + 1) (qa2 * qb3 - qa3 * qb2) (qa3 * qb1 - qa1 * qb3) (qa1 * qb2 - qa2 * qb1)) := by
  obtain ⟨w0, hw0, x0, x1, x2, b0⟩ := bx_VVv w a1 a2 a3 b1 b2 b3
  have ha := ha0.later b0
  clear ha0
  have hb := hb0.later b0
  clear hb0
  obtain ⟨g0, hg0⟩ : ∃ g0, g0 = w.heap.size := ⟨_, rfl⟩
  obtain ⟨g1, hg1⟩ : ∃ g1, g1 = w.heap.size + 1 := ⟨_, rfl⟩
  obtain ⟨g2, hg2⟩ : ∃ g2, g2 = w.heap.size + 2 := ⟨_, rfl⟩
  have HG : Hid (w.heap.size ≤ g2) := by show w.heap.size ≤ g2; omega
  go_enter Try.func19, Try.ntmps19
  go_wp2
  rw [← hw0, ← hg2, ← hg1, ← hg0]
  rw [← hg0] at x0
  rw [← hg1] at x1
  rw [← hg2] at x2
  clear hw0 hg0 hg1 hg2
  have HLst : Lst [VV (.pointer (some ⟨g0, 3, none⟩)), VV (.agg #[.bool a2.s, .slice a2.no a2.nn a2.nc, .slice a2.eo a2.en a2.ec]), VV (.pointer (some ⟨g1, 6, none⟩)), VV (.agg #[.bool b3.s, .slice b3.no b3.nn b3.nc, .slice b3.eo b3.en b3.ec]), VV (.pointer (some ⟨g0, 6, none⟩)), VV (.agg #[.bool a3.s, .slice a3.no a3.nn a3.nc, .slice a3.eo a3.en a3.ec]), VV (.pointer (some ⟨g1, 3, none⟩)), VV (.agg #[.bool b2.s, .slice b2.no b2.nn b2.nc, .slice b2.eo b2.en b2.ec]), VC ((qa2) * (qb3) - ((qa3) * (qb2))) ((K) + (L) + ((K) + (L)) + 1), VV (.pointer (some ⟨g0, 6, none⟩)), VV (.agg #[.bool a3.s, .slice a3.no a3.nn a3.nc, .slice a3.eo a3.en a3.ec]), VV (.pointer (some ⟨g1, 0, none⟩)), VV (.agg #[.bool b1.s, .slice b1.no b1.nn b1.nc, .slice b1.eo b1.en b1.ec]), VV (.pointer (some ⟨g0, 0, none⟩)), VV (.agg #[.bool a1.s, .slice a1.no a1.nn a1.nc, .slice a1.eo a1.en a1.ec]), VV (.pointer (some ⟨g1, 6, none⟩)), VV (.agg #[.bool b3.s, .slice b3.no b3.nn b3.nc, .slice b3.eo b3.en b3.ec]), VC ((qa3) * (qb1) - ((qa1) * (qb3))) ((K) + (L) + ((K) + (L)) + 1), VV (.pointer (some ⟨g0, 0, none⟩)), VV (.agg #[.bool a1.s, .slice a1.no a1.nn a1.nc, .slice a1.eo a1.en a1.ec]), VV (.pointer (some ⟨g1, 3, none⟩)), VV (.agg #[.bool b2.s, .slice b2.no b2.nn b2.nc, .slice b2.eo b2.en b2.ec]), VV (.pointer (some ⟨g0, 3, none⟩)), VV (.agg #[.bool a2.s, .slice a2.no a2.nn a2.nc, .slice a2.eo a2.en a2.ec]), VV (.pointer (some ⟨g1, 0, none⟩)), VV (.agg #[.bool b1.s, .slice b1.no b1.nn b1.nc, .slice b1.eo b1.en b1.ec]), VC ((qa1) * (qb2) - ((qa2) * (qb1))) ((K) + (L) + ((K) + (L)) + 1), VG ((qa2) * (qb3) - ((qa3) * (qb2))) ((qa3) * (qb1) - ((qa1) * (qb3))) ((qa1) * (qb2) - ((qa2) * (qb1))) ((K) + (L) + ((K) + (L)) + 1)] := ⟨VV.lasts _, VV.lasts _, VV.lasts _, VV.lasts _, VV.lasts _, VV.lasts _, VV.lasts _, VV.lasts _, VC.lasts _ _, VV.lasts _, VV.lasts _, VV.lasts _, VV.lasts _, VV.lasts _, VV.lasts _, VV.lasts _, VV.lasts _, VC.lasts _ _, VV.lasts _, VV.lasts _, VV.lasts _, VV.lasts _, VV.lasts _, VV.lasts _, VV.lasts _, VV.lasts _, VC.lasts _ _, VG.lasts _ _ _ _, trivial⟩
  refine wp_region_kahn 28 33 [([], [2]), ([(0, 5)], []), ([], [3]), ([(2, 7)], []), ([], [2]), ([(4, 9)], []), ([], [3]), ([(6, 11)], []), ([(1, 6), (3, 8), (5, 10), (7, 12)], []), ([], [2]), ([(9, 14)], []), ([], [3]), ([(11, 16)], []), ([], [2]), ([(13, 18)], []), ([], [3]), ([(15, 20)], []), ([(10, 15), (12, 17), (14, 19), (16, 21)], []), ([], [2]), ([(18, 23)], []), ([], [3]), ([(20, 25)], []), ([], [2]), ([(22, 27)], []), ([], [3]), ([(24, 29)], []), ([(19, 24), (21, 26), (23, 28), (25, 30)], []), ([(8, 13), (17, 22), (26, 31)], [])]
    (fun u => Below w0.heap.size w0 u) (fun u u' => Below u.heap.size u u')
    (Sp [VV (.pointer (some ⟨g0, 3, none⟩)), VV (.agg #[.bool a2.s, .slice a2.no a2.nn a2.nc, .slice a2.eo a2.en a2.ec]), VV (.pointer (some ⟨g1, 6, none⟩)), VV (.agg #[.bool b3.s, .slice b3.no b3.nn b3.nc, .slice b3.eo b3.en b3.ec]), VV (.pointer (some ⟨g0, 6, none⟩)), VV (.agg #[.bool a3.s, .slice a3.no a3.nn a3.nc, .slice a3.eo a3.en a3.ec]), VV (.pointer (some ⟨g1, 3, none⟩)), VV (.agg #[.bool b2.s, .slice b2.no b2.nn b2.nc, .slice b2.eo b2.en b2.ec]), VC ((qa2) * (qb3) - ((qa3) * (qb2))) ((K) + (L) + ((K) + (L)) + 1), VV (.pointer (some ⟨g0, 6, none⟩)), VV (.agg #[.bool a3.s, .slice a3.no a3.nn a3.nc, .slice a3.eo a3.en a3.ec]), VV (.pointer (some ⟨g1, 0, none⟩)), VV (.agg #[.bool b1.s, .slice b1.no b1.nn b1.nc, .slice b1.eo b1.en b1.ec]), VV (.pointer (some ⟨g0, 0, none⟩)), VV (.agg #[.bool a1.s, .slice a1.no a1.nn a1.nc, .slice a1.eo a1.en a1.ec]), VV (.pointer (some ⟨g1, 6, none⟩)), VV (.agg #[.bool b3.s, .slice b3.no b3.nn b3.nc, .slice b3.eo b3.en b3.ec]), VC ((qa3) * (qb1) - ((qa1) * (qb3))) ((K) + (L) + ((K) + (L)) + 1), VV (.pointer (some ⟨g0, 0, none⟩)), VV (.agg #[.bool a1.s, .slice a1.no a1.nn a1.nc, .slice a1.eo a1.en a1.ec]), VV (.pointer (some ⟨g1, 3, none⟩)), VV (.agg #[.bool b2.s, .slice b2.no b2.nn b2.nc, .slice b2.eo b2.en b2.ec]), VV (.pointer (some ⟨g0, 3, none⟩)), VV (.agg #[.bool a2.s, .slice a2.no a2.nn a2.nc, .slice a2.eo a2.en a2.ec]), VV (.pointer (some ⟨g1, 0, none⟩)), VV (.agg #[.bool b1.s, .slice b1.no b1.nn b1.nc, .slice b1.eo b1.en b1.ec]), VC ((qa1) * (qb2) - ((qa2) * (qb1))) ((K) + (L) + ((K) + (L)) + 1), VG ((qa2) * (qb3) - ((qa3) * (qb2))) ((qa3) * (qb1) - ((qa1) * (qb3))) ((qa1) * (qb2) - ((qa2) * (qb1))) ((K) + (L) + ((K) + (L)) + 1)])
    (by kernel_rfl) rfl (by kernel_rfl) (Below.refl _ _).drew (fun k v u u' _ hg hs => Sp.lasts HLst k v u u' hg hs) ?_ ?_
  · clear HLst
    refine ⟨.inl ⟨by simp, fun ρ u hC hc hf hd ho => ?_⟩, .inl ⟨by simp, fun ρ u hC hc hf hd ho => ?_⟩, .inl ⟨by simp, fun ρ u hC hc hf hd ho => ?_⟩, .inl ⟨by simp, fun ρ u hC hc hf hd ho => ?_⟩, .inl ⟨by simp, fun ρ u hC hc hf hd ho => ?_⟩, .inl ⟨by simp, fun ρ u hC hc hf hd ho => ?_⟩, .inl ⟨by simp, fun ρ u hC hc hf hd ho => ?_⟩, .inl ⟨by simp, fun ρ u hC hc hf hd ho => ?_⟩, .inl ⟨by simp, fun ρ u hC hc hf hd ho => ?_⟩, .inl ⟨by simp, fun ρ u hC hc hf hd ho => ?_⟩, .inl ⟨by simp, fun ρ u hC hc hf hd ho => ?_⟩, .inl ⟨by simp, fun ρ u hC hc hf hd ho => ?_⟩, .inl ⟨by simp, fun ρ u hC hc hf hd ho => ?_⟩, .inl ⟨by simp, fun ρ u hC hc hf hd ho => ?_⟩, .inl ⟨by simp, fun ρ u hC hc hf hd ho => ?_⟩, .inl ⟨by simp, fun ρ u hC hc hf hd ho => ?_⟩, .inl ⟨by simp, fun ρ u hC hc hf hd ho => ?_⟩, .inl ⟨by simp, fun ρ u hC hc hf hd ho => ?_⟩, .inl ⟨by simp, fun ρ u hC hc hf hd ho => ?_⟩, .inl ⟨by simp, fun ρ u hC hc hf hd ho => ?_⟩, .inl ⟨by simp, fun ρ u hC hc hf hd ho => ?_⟩, .inl ⟨by simp, fun ρ u hC hc hf hd ho => ?_⟩, .inl ⟨by simp, fun ρ u hC hc hf hd ho => ?_⟩, .inl ⟨by simp, fun ρ u hC hc hf hd ho => ?_⟩, .inl ⟨by simp, fun ρ u hC hc hf hd ho => ?_⟩, .inl ⟨by simp, fun ρ u hC hc hf hd ho => ?_⟩, .inl ⟨by simp, fun ρ u hC hc hf hd ho => ?_⟩, .inl ⟨by simp, fun ρ u hC hc hf hd ho => ?_⟩, trivial⟩
    · have e2 : ρ (.tmp 2) = .pointer (some ⟨g0, 0, none⟩) := ho 2 (by simp)
      refine Goes.pure (.pointer (some ⟨g0, 3, none⟩)) ?_ ⟨hC, Below.refl _ _, rfl⟩
      unfold Goes
      go_simp
    · have e5 : ρ (.tmp 5) = .pointer (some ⟨g0, 3, none⟩) := hd (0, 5) (by simp)
      obtain ⟨c0, c1, c2⟩ := (x0.later hC).c1
      refine Goes.pure (.agg #[.bool a2.s, .slice a2.no a2.nn a2.nc, .slice a2.eo a2.en a2.ec]) ?_ ⟨hC, Below.refl _ _, rfl⟩
      unfold Goes
      go_simp
    · have e3 : ρ (.tmp 3) = .pointer (some ⟨g1, 0, none⟩) := ho 3 (by simp)
      refine Goes.pure (.pointer (some ⟨g1, 6, none⟩)) ?_ ⟨hC, Below.refl _ _, rfl⟩
      unfold Goes
      go_simp
    · have e7 : ρ (.tmp 7) = .pointer (some ⟨g1, 6, none⟩) := hd (2, 7) (by simp)
      obtain ⟨c0, c1, c2⟩ := (x1.later hC).c2
      refine Goes.pure (.agg #[.bool b3.s, .slice b3.no b3.nn b3.nc, .slice b3.eo b3.en b3.ec]) ?_ ⟨hC, Below.refl _ _, rfl⟩
      unfold Goes
      go_simp
    · have e2 : ρ (.tmp 2) = .pointer (some ⟨g0, 0, none⟩) := ho 2 (by simp)
      refine Goes.pure (.pointer (some ⟨g0, 6, none⟩)) ?_ ⟨hC, Below.refl _ _, rfl⟩
      unfold Goes
      go_simp
    · have e9 : ρ (.tmp 9) = .pointer (some ⟨g0, 6, none⟩) := hd (4, 9) (by simp)
      obtain ⟨c0, c1, c2⟩ := (x0.later hC).c2
      refine Goes.pure (.agg #[.bool a3.s, .slice a3.no a3.nn a3.nc, .slice a3.eo a3.en a3.ec]) ?_ ⟨hC, Below.refl _ _, rfl⟩
      unfold Goes
      go_simp
    · have e3 : ρ (.tmp 3) = .pointer (some ⟨g1, 0, none⟩) := ho 3 (by simp)
      refine Goes.pure (.pointer (some ⟨g1, 3, none⟩)) ?_ ⟨hC, Below.refl _ _, rfl⟩
      unfold Goes
      go_simp
    · have e11 : ρ (.tmp 11) = .pointer (some ⟨g1, 3, none⟩) := hd (6, 11) (by simp)
      obtain ⟨c0, c1, c2⟩ := (x1.later hC).c1
      refine Goes.pure (.agg #[.bool b2.s, .slice b2.no b2.nn b2.nc, .slice b2.eo b2.en b2.ec]) ?_ ⟨hC, Below.refl _ _, rfl⟩
      unfold Goes
      go_simp
    · have e6 : ρ (.tmp 6) = .agg #[.bool a2.s, .slice a2.no a2.nn a2.nc, .slice a2.eo a2.en a2.ec] := hd (1, 6) (by simp)
      have e8 : ρ (.tmp 8) = .agg #[.bool b3.s, .slice b3.no b3.nn b3.nc, .slice b3.eo b3.en b3.ec] := hd (3, 8) (by simp)
      have e10 : ρ (.tmp 10) = .agg #[.bool a3.s, .slice a3.no a3.nn a3.nc, .slice a3.eo a3.en a3.ec] := hd (5, 10) (by simp)
      have e12 : ρ (.tmp 12) = .agg #[.bool b2.s, .slice b2.no b2.nn b2.nc, .slice b2.eo b2.en b2.ec] := hd (7, 12) (by simp)
      refine Goes.call 42 #[.agg #[.bool a2.s, .slice a2.no a2.nn a2.nc, .slice a2.eo a2.en a2.ec], .agg #[.bool b3.s, .slice b3.no b3.nn b3.nc, .slice b3.eo b3.en b3.ec], .agg #[.bool a3.s, .slice a3.no a3.nn a3.nc, .slice a3.eo a3.en a3.ec], .agg #[.bool b2.s, .slice b2.no b2.nn b2.nc, .slice b2.eo b2.en b2.ec]] (by go_simp) ?_
      refine Calls.mono (lessProduct_k (a := ⟨a2.s, a2.no, a2.nn, a2.nc, a2.eo, a2.en, a2.ec⟩) (b := ⟨b3.s, b3.no, b3.nn, b3.nc, b3.eo, b3.en, b3.ec⟩) (x := ⟨a3.s, a3.no, a3.nn, a3.nc, a3.eo, a3.en, a3.ec⟩) (y := ⟨b2.s, b2.no, b2.nn, b2.nc, b2.eo, b2.en, b2.ec⟩) ((ha.later hC).y) ((hb.later hC).z) ((ha.later hC).z) ((hb.later hC).y) (by omega) (by omega) (by omega)) ?_
      rintro e u' ⟨s1, no1, nn1, nc1, eo1, en1, ec1, rfl, cq, lb⟩
      exact ⟨_, rfl, hC.trans (lb.mono hC.size), lb, ⟨s1, no1, nn1, nc1, eo1, en1, ec1, rfl, cq⟩⟩
    · have e2 : ρ (.tmp 2) = .pointer (some ⟨g0, 0, none⟩) := ho 2 (by simp)
      refine Goes.pure (.pointer (some ⟨g0, 6, none⟩)) ?_ ⟨hC, Below.refl _ _, rfl⟩
      unfold Goes
      go_simp
    · have e14 : ρ (.tmp 14) = .pointer (some ⟨g0, 6, none⟩) := hd (9, 14) (by simp)
      obtain ⟨c0, c1, c2⟩ := (x0.later hC).c2
      refine Goes.pure (.agg #[.bool a3.s, .slice a3.no a3.nn a3.nc, .slice a3.eo a3.en a3.ec]) ?_ ⟨hC, Below.refl _ _, rfl⟩
      unfold Goes
      go_simp
    · have e3 : ρ (.tmp 3) = .pointer (some ⟨g1, 0, none⟩) := ho 3 (by simp)
      refine Goes.pure (.pointer (some ⟨g1, 0, none⟩)) ?_ ⟨hC, Below.refl _ _, rfl⟩
      unfold Goes
      go_simp
    · have e16 : ρ (.tmp 16) = .pointer (some ⟨g1, 0, none⟩) := hd (11, 16) (by simp)
      obtain ⟨c0, c1, c2⟩ := (x1.later hC).c0
      refine Goes.pure (.agg #[.bool b1.s, .slice b1.no b1.nn b1.nc, .slice b1.eo b1.en b1.ec]) ?_ ⟨hC, Below.refl _ _, rfl⟩
      unfold Goes
      go_simp
    · have e2 : ρ (.tmp 2) = .pointer (some ⟨g0, 0, none⟩) := ho 2 (by simp)
      refine Goes.pure (.pointer (some ⟨g0, 0, none⟩)) ?_ ⟨hC, Below.refl _ _, rfl⟩
      unfold Goes
      go_simp
    · have e18 : ρ (.tmp 18) = .pointer (some ⟨g0, 0, none⟩) := hd (13, 18) (by simp)
      obtain ⟨c0, c1, c2⟩ := (x0.later hC).c0
      refine Goes.pure (.agg #[.bool a1.s, .slice a1.no a1.nn a1.nc, .slice a1.eo a1.en a1.ec]) ?_ ⟨hC, Below.refl _ _, rfl⟩
      unfold Goes
      go_simp
    · have e3 : ρ (.tmp 3) = .pointer (some ⟨g1, 0, none⟩) := ho 3 (by simp)
      refine Goes.pure (.pointer (some ⟨g1, 6, none⟩)) ?_ ⟨hC, Below.refl _ _, rfl⟩
      unfold Goes
      go_simp
    · have e20 : ρ (.tmp 20) = .pointer (some ⟨g1, 6, none⟩) := hd (15, 20) (by simp)
      obtain ⟨c0, c1, c2⟩ := (x1.later hC).c2
      refine Goes.pure (.agg #[.bool b3.s, .slice b3.no b3.nn b3.nc, .slice b3.eo b3.en b3.ec]) ?_ ⟨hC, Below.refl _ _, rfl⟩
      unfold Goes
      go_simp
    · have e15 : ρ (.tmp 15) = .agg #[.bool a3.s, .slice a3.no a3.nn a3.nc, .slice a3.eo a3.en a3.ec] := hd (10, 15) (by simp)
      have e17 : ρ (.tmp 17) = .agg #[.bool b1.s, .slice b1.no b1.nn b1.nc, .slice b1.eo b1.en b1.ec] := hd (12, 17) (by simp)
      have e19 : ρ (.tmp 19) = .agg #[.bool a1.s, .slice a1.no a1.nn a1.nc, .slice a1.eo a1.en a1.ec] := hd (14, 19) (by simp)
      have e21 : ρ (.tmp 21) = .agg #[.bool b3.s, .slice b3.no b3.nn b3.nc, .slice b3.eo b3.en b3.ec] := hd (16, 21) (by simp)
      refine Goes.call 42 #[.agg #[.bool a3.s, .slice a3.no a3.nn a3.nc, .slice a3.eo a3.en a3.ec], .agg #[.bool b1.s, .slice b1.no b1.nn b1.nc, .slice b1.eo b1.en b1.ec], .agg #[.bool a1.s, .slice a1.no a1.nn a1.nc, .slice a1.eo a1.en a1.ec], .agg #[.bool b3.s, .slice b3.no b3.nn b3.nc, .slice b3.eo b3.en b3.ec]] (by go_simp) ?_
      refine Calls.mono (lessProduct_k (a := ⟨a3.s, a3.no, a3.nn, a3.nc, a3.eo, a3.en, a3.ec⟩) (b := ⟨b1.s, b1.no, b1.nn, b1.nc, b1.eo, b1.en, b1.ec⟩) (x := ⟨a1.s, a1.no, a1.nn, a1.nc, a1.eo, a1.en, a1.ec⟩) (y := ⟨b3.s, b3.no, b3.nn, b3.nc, b3.eo, b3.en, b3.ec⟩) ((ha.later hC).z) ((hb.later hC).x) ((ha.later hC).x) ((hb.later hC).z) (by omega) (by omega) (by omega)) ?_
      rintro e u' ⟨s1, no1, nn1, nc1, eo1, en1, ec1, rfl, cq, lb⟩
      exact ⟨_, rfl, hC.trans (lb.mono hC.size), lb, ⟨s1, no1, nn1, nc1, eo1, en1, ec1, rfl, cq⟩⟩
    · have e2 : ρ (.tmp 2) = .pointer (some ⟨g0, 0, none⟩) := ho 2 (by simp)
      refine Goes.pure (.pointer (some ⟨g0, 0, none⟩)) ?_ ⟨hC, Below.refl _ _, rfl⟩
      unfold Goes
      go_simp
    · have e23 : ρ (.tmp 23) = .pointer (some ⟨g0, 0, none⟩) := hd (18, 23) (by simp)
      obtain ⟨c0, c1, c2⟩ := (x0.later hC).c0
      refine Goes.pure (.agg #[.bool a1.s, .slice a1.no a1.nn a1.nc, .slice a1.eo a1.en a1.ec]) ?_ ⟨hC, Below.refl _ _, rfl⟩
      unfold Goes
      go_simp
    · have e3 : ρ (.tmp 3) = .pointer (some ⟨g1, 0, none⟩) := ho 3 (by simp)
      refine Goes.pure (.pointer (some ⟨g1, 3, none⟩)) ?_ ⟨hC, Below.refl _ _, rfl⟩
      unfold Goes
      go_simp
    · have e25 : ρ (.tmp 25) = .pointer (some ⟨g1, 3, none⟩) := hd (20, 25) (by simp)
      obtain ⟨c0, c1, c2⟩ := (x1.later hC).c1
      refine Goes.pure (.agg #[.bool b2.s, .slice b2.no b2.nn b2.nc, .slice b2.eo b2.en b2.ec]) ?_ ⟨hC, Below.refl _ _, rfl⟩
      unfold Goes
      go_simp
    · have e2 : ρ (.tmp 2) = .pointer (some ⟨g0, 0, none⟩) := ho 2 (by simp)
      refine Goes.pure (.pointer (some ⟨g0, 3, none⟩)) ?_ ⟨hC, Below.refl _ _, rfl⟩
      unfold Goes
      go_simp
    · have e27 : ρ (.tmp 27) = .pointer (some ⟨g0, 3, none⟩) := hd (22, 27) (by simp)
      obtain ⟨c0, c1, c2⟩ := (x0.later hC).c1
      refine Goes.pure (.agg #[.bool a2.s, .slice a2.no a2.nn a2.nc, .slice a2.eo a2.en a2.ec]) ?_ ⟨hC, Below.refl _ _, rfl⟩
      unfold Goes
      go_simp
    · have e3 : ρ (.tmp 3) = .pointer (some ⟨g1, 0, none⟩) := ho 3 (by simp)
      refine Goes.pure (.pointer (some ⟨g1, 0, none⟩)) ?_ ⟨hC, Below.refl _ _, rfl⟩
      unfold Goes
      go_simp
    · have e29 : ρ (.tmp 29) = .pointer (some ⟨g1, 0, none⟩) := hd (24, 29) (by simp)
      obtain ⟨c0, c1, c2⟩ := (x1.later hC).c0
      refine Goes.pure (.agg #[.bool b1.s, .slice b1.no b1.nn b1.nc, .slice b1.eo b1.en b1.ec]) ?_ ⟨hC, Below.refl _ _, rfl⟩
      unfold Goes
      go_simp
    · have e24 : ρ (.tmp 24) = .agg #[.bool a1.s, .slice a1.no a1.nn a1.nc, .slice a1.eo a1.en a1.ec] := hd (19, 24) (by simp)
      have e26 : ρ (.tmp 26) = .agg #[.bool b2.s, .slice b2.no b2.nn b2.nc, .slice b2.eo b2.en b2.ec] := hd (21, 26) (by simp)
      have e28 : ρ (.tmp 28) = .agg #[.bool a2.s, .slice a2.no a2.nn a2.nc, .slice a2.eo a2.en a2.ec] := hd (23, 28) (by simp)
      have e30 : ρ (.tmp 30) = .agg #[.bool b1.s, .slice b1.no b1.nn b1.nc, .slice b1.eo b1.en b1.ec] := hd (25, 30) (by simp)
      refine Goes.call 42 #[.agg #[.bool a1.s, .slice a1.no a1.nn a1.nc, .slice a1.eo a1.en a1.ec], .agg #[.bool b2.s, .slice b2.no b2.nn b2.nc, .slice b2.eo b2.en b2.ec], .agg #[.bool a2.s, .slice a2.no a2.nn a2.nc, .slice a2.eo a2.en a2.ec], .agg #[.bool b1.s, .slice b1.no b1.nn b1.nc, .slice b1.eo b1.en b1.ec]] (by go_simp) ?_
      refine Calls.mono (lessProduct_k (a := ⟨a1.s, a1.no, a1.nn, a1.nc, a1.eo, a1.en, a1.ec⟩) (b := ⟨b2.s, b2.no, b2.nn, b2.nc, b2.eo, b2.en, b2.ec⟩) (x := ⟨a2.s, a2.no, a2.nn, a2.nc, a2.eo, a2.en, a2.ec⟩) (y := ⟨b1.s, b1.no, b1.nn, b1.nc, b1.eo, b1.en, b1.ec⟩) ((ha.later hC).x) ((hb.later hC).y) ((ha.later hC).y) ((hb.later hC).x) (by omega) (by omega) (by omega)) ?_
      rintro e u' ⟨s1, no1, nn1, nc1, eo1, en1, ec1, rfl, cq, lb⟩
      exact ⟨_, rfl, hC.trans (lb.mono hC.size), lb, ⟨s1, no1, nn1, nc1, eo1, en1, ec1, rfl, cq⟩⟩
    · obtain ⟨s13, no13, nn13, nc13, eo13, en13, ec13, e13, k13⟩ : VC ((qa2) * (qb3) - ((qa3) * (qb2))) ((K) + (L) + ((K) + (L)) + 1) (ρ (.tmp 13)) u := hd (8, 13) (by simp)
      obtain ⟨s22, no22, nn22, nc22, eo22, en22, ec22, e22, k22⟩ : VC ((qa3) * (qb1) - ((qa1) * (qb3))) ((K) + (L) + ((K) + (L)) + 1) (ρ (.tmp 22)) u := hd (17, 22) (by simp)
      obtain ⟨s31, no31, nn31, nc31, eo31, en31, ec31, e31, k31⟩ : VC ((qa1) * (qb2) - ((qa2) * (qb1))) ((K) + (L) + ((K) + (L)) + 1) (ρ (.tmp 31)) u := hd (26, 31) (by simp)
      refine Goes.pure (.agg #[.bool s13, .slice no13 nn13 nc13, .slice eo13 en13 ec13, .bool s22, .slice no22 nn22 nc22, .slice eo22 en22 ec22, .bool s31, .slice no31 nn31 nc31, .slice eo31 en31 ec31]) ?_ ⟨hC, Below.refl _ _, ⟨⟨s13, no13, nn13, nc13, eo13, en13, ec13⟩, ⟨s22, no22, nn22, nc22, eo22, en22, ec22⟩, ⟨s31, no31, nn31, nc31, eo31, en31, ec31⟩, rfl, k13.mono (by omega), k22.mono (by omega), k31.mono (by omega)⟩⟩
      unfold Goes
      go_simp
  · intro vs u hC hv
    obtain ⟨ra, rb, rc, eR, cv⟩ : VG ((qa2) * (qb3) - ((qa3) * (qb2))) ((qa3) * (qb1) - ((qa1) * (qb3))) ((qa1) * (qb2) - ((qa2) * (qb1))) ((K) + (L) + ((K) + (L)) + 1) (vs 27) u := hv 27 (by omega)
    have xr := x2.later hC
    obtain ⟨c0, c1, c2⟩ := xr.c0
    obtain ⟨c3, c4, c5⟩ := xr.c1
    obtain ⟨c6, c7, c8⟩ := xr.c2
    have f0 := xr.free 0
    have f1 := xr.free 1
    have f2 := xr.free 2
    have f3 := xr.free 3
    have f4 := xr.free 4
    have f5 := xr.free 5
    have f6 := xr.free 6
    have f7 := xr.free 7
    have f8 := xr.free 8
    clear hv
    simp only [puts, List.take, List.drop, Act.put, List.setIfInBounds_toArray, List.set_cons_succ, List.set_cons_zero, Nat.reduceAdd, eR]
    go_wp2
    exact ret_storeV rfl rfl rfl xr HG.out (cv.mono (by omega)) (b0.trans (hC.mono b0.size))
set_option maxHeartbeats 2000000 in
theorem vof_k {w : World} {x y z : Int} (x1 : -9223372036854775808 ≤ x) (x2 : x ≤ 9223372036854775807) (y1 : -9223372036854775808 ≤ y) (y2 : y ≤ 9223372036854775807) (z1 : -9223372036854775808 ≤ z) (z2 : z ≤ 9223372036854775807) : Calls Try.prog 33 #[.int .i64 x, .int .i64 y, .int .i64 z] w (Gv3 w (2) (((x : Int) : Rat) / ((1 : Int) : Rat)) (((y : Int) : Rat) / ((1 : Int) : Rat)) (((z : Int) : Rat) / ((1 : Int) : Rat))) := by
  obtain ⟨w0, hw0, xr, b0⟩ := bx_v w
  obtain ⟨g, hg⟩ : ∃ g, g = w.heap.size := ⟨_, rfl⟩
  have HG : Hid (w.heap.size ≤ g) := by show w.heap.size ≤ g; omega
  go_enter Try.func33, Try.ntmps33
  go_wp2_with fail
  rw [← hw0, ← hg]
  rw [← hg] at xr
  clear hw0 hg
  refine (ratOf_k x 1 x1 x2 (by omega) (by omega)).mono ?_
  rintro e w1 ⟨s1, no1, nn1, nc1, eo1, en1, ec1, rfl, k1, lb⟩
  replace xr := xr.later lb
  replace b0 := b0.trans (lb.mono b0.size)
  clear lb
  go_wp2_with fail
  refine (ratOf_k y 1 y1 y2 (by omega) (by omega)).mono ?_
  rintro e w2 ⟨s2, no2, nn2, nc2, eo2, en2, ec2, rfl, k2, lb⟩
  replace xr := xr.later lb
  replace b0 := b0.trans (lb.mono b0.size)
  replace k1 := k1.later lb
  clear lb
  go_wp2_with fail
  refine (ratOf_k z 1 z1 z2 (by omega) (by omega)).mono ?_
  rintro e w3 ⟨s3, no3, nn3, nc3, eo3, en3, ec3, rfl, k3, lb⟩
  replace xr := xr.later lb
  replace b0 := b0.trans (lb.mono b0.size)
  replace k1 := k1.later lb
  replace k2 := k2.later lb
  clear lb
  obtain ⟨c0, c1, c2⟩ := xr.c0
  obtain ⟨c3, c4, c5⟩ := xr.c1
  obtain ⟨c6, c7, c8⟩ := xr.c2
  have f0 := xr.free 0
  have f1 := xr.free 1
  have f2 := xr.free 2
  have f3 := xr.free 3
  have f4 := xr.free 4
  have f5 := xr.free 5
  have f6 := xr.free 6
  have f7 := xr.free 7
  have f8 := xr.free 8
  go_wp2
  exact ret_storeV (x := ⟨s1, no1, nn1, nc1, eo1, en1, ec1⟩) (y := ⟨s2, no2, nn2, nc2, eo2, en2, ec2⟩) (z := ⟨s3, no3, nn3, nc3, eo3, en3, ec3⟩) rfl rfl rfl xr HG.out ⟨k1, k2, k3⟩ b0
end Go.Proofs.Ytmbemidacilakaa

/- package vec: Same. -/
namespace Go.Proofs.Ytmbemidacilakaa
open Go.RowKit M Kahn
set_option maxRecDepth 100000

set_option maxHeartbeats 8000000 in
theorem vsame_k {w : World} {a1 a2 a3 : RP} {qa1 qa2 qa3 : Rat} {b1 b2 b3 : RP} {qb1 qb2 qb3 : Rat} {K L : Nat} (ha0 : Qv w a1 a2 a3 qa1 qa2 qa3 K) (hb0 : Qv w b1 b2 b3 qb1 qb2 qb3 L) (K1 : 1 ≤ K) (L1 : 1 ≤ L) (hK : K + L + 1 ≤ 4294967296) :
    Calls Try.prog 23 #[.agg #[.bool a1.s, .slice a1.no a1.nn a1.nc, .slice a1.eo a1.en a1.ec, .bool a2.s, .slice a2.no a2.nn a2.nc, .slice a2.eo a2.en a2.ec, .bool a3.s, .slice a3.no a3.nn a3.nc, .slice a3.eo a3.en a3.ec], .agg #[.bool b1.s, .slice b1.no b1.nn b1.nc, .slice b1.eo b1.en b1.ec, .bool b2.s, .slice b2.no b2.nn b2.nc, .slice b2.eo b2.en b2.ec, .bool b3.s, .slice b3.no b3.nn b3.nc, .slice b3.eo b3.en b3.ec]] w (Gb w (qa1 = qb1 ∧ qa2 = qb2 ∧ qa3 = qb3)) := by
  obtain ⟨w0, hw0, x0, x1, b0⟩ := bx_VV w a1 a2 a3 b1 b2 b3
  have ha := ha0.later b0
  have hb := hb0.later b0
  clear ha0 hb0
  obtain ⟨g0, hg0⟩ : ∃ g0, g0 = w.heap.size := ⟨_, rfl⟩
  obtain ⟨g1, hg1⟩ : ∃ g1, g1 = w.heap.size + 1 := ⟨_, rfl⟩
  obtain ⟨c0, c1, c2⟩ := x0.c0
  obtain ⟨d0, d1, d2⟩ := x1.c0
  rw [hw0] at c0 c1 c2 d0 d1 d2
  go_enter Try.func23, Try.ntmps23
  go_wp2_with fail
  rw [← hw0] at c0 c1 c2 d0 d1 d2
  rw [← hw0, ← hg1, ← hg0]
  rw [← hg0] at x0
  rw [← hg1] at x1
  clear hw0 hg0 hg1
  refine (ratSame_k ha.x hb.x K1 L1 (by omega)).mono ?_
  rintro e w1 ⟨r0, rfl, HR0, lb⟩
  have I0 : Hid (r0 = true ↔ qa1 = qb1) := HR0
  replace ha := ha.later lb
  replace hb := hb.later lb
  replace x0 := x0.later lb
  replace x1 := x1.later lb
  replace b0 := b0.trans (lb.mono b0.size)
  clear lb HR0 c0 c1 c2 d0 d1 d2
  obtain ⟨c0, c1, c2⟩ := x0.c1
  obtain ⟨d0, d1, d2⟩ := x1.c1
  cases r0
  · skip
    go_wp2
    go_ret
    exact ⟨_, rfl, (by show (_ ↔ _); rw [← I0.out]; simp), b0⟩
  · skip
    go_wp2_with fail
    refine (ratSame_k ha.y hb.y K1 L1 (by omega)).mono ?_
    rintro e w2 ⟨r1, rfl, HR1, lb⟩
    have I1 : Hid (r1 = true ↔ qa2 = qb2) := HR1
    replace ha := ha.later lb
    replace hb := hb.later lb
    replace x0 := x0.later lb
    replace x1 := x1.later lb
    replace b0 := b0.trans (lb.mono b0.size)
    clear lb HR1 c0 c1 c2 d0 d1 d2
    obtain ⟨c0, c1, c2⟩ := x0.c2
    obtain ⟨d0, d1, d2⟩ := x1.c2
    cases r1
    · skip
      go_wp2
      go_ret
      exact ⟨_, rfl, (by show (_ ↔ _); rw [← I1.out]; simp), b0⟩
    · skip
      go_wp2_with fail
      refine (ratSame_k ha.z hb.z K1 L1 (by omega)).mono ?_
      rintro e w3 ⟨r2, rfl, HR2, lb⟩
      have I2 : Hid (r2 = true ↔ qa3 = qb3) := HR2
      replace ha := ha.later lb
      replace hb := hb.later lb
      replace x0 := x0.later lb
      replace x1 := x1.later lb
      replace b0 := b0.trans (lb.mono b0.size)
      clear lb HR2 c0 c1 c2 d0 d1 d2
      go_wp2
      go_ret
      exact ⟨_, rfl, (by show (_ ↔ _); rw [← I0.out, ← I1.out, ← I2.out]; simp), b0⟩
end Go.Proofs.Ytmbemidacilakaa

/- package vec: Unit. -/
namespace Go.Proofs.Ytmbemidacilakaa
open Go.RowKit M Kahn
set_option maxRecDepth 100000

theorem uok_is (n : Rat) : uok n = decide (qsqrt n ≠ 0) := by
  unfold uok
  cases h : qsq n
  · have : qsqrt n = 0 := by unfold qsqrt; rw [h]; rfl
    rw [this]
    rfl
  · rfl
set_option maxHeartbeats 8000000 in
theorem vunit_k {w : World} {a1 a2 a3 : RP} {qa1 qa2 qa3 : Rat} {K : Nat} (ha0 : Qv w a1 a2 a3 qa1 qa2 qa3 K) (K1 : 1 ≤ K) (hK : 7 * K + 4 ≤ 67108864) :
    Calls Try.prog 24 #[.agg #[.bool a1.s, .slice a1.no a1.nn a1.nc, .slice a1.eo a1.en a1.ec, .bool a2.s, .slice a2.no a2.nn a2.nc, .slice a2.eo a2.en a2.ec, .bool a3.s, .slice a3.no a3.nn a3.nc, .slice a3.eo a3.en a3.ec]] w (Gu w (7 * K + 4) (uv (qa1 * qa1 + qa2 * qa2 + qa3 * qa3) qa1) (uv (qa1 * qa1 + qa2 * qa2 + qa3 * qa3) qa2) (uv (qa1 * qa1 + qa2 * qa2 + qa3 * qa3) qa3) (ul (qa1 * qa1 + qa2 * qa2 + qa3 * qa3)) (uok (qa1 * qa1 + qa2 * qa2 + qa3 * qa3))) := by
  obtain ⟨w0, hw0, x0, x1, x2, b0⟩ := bx_Vvr w a1 a2 a3
  have ha := ha0.later b0
  clear ha0
  obtain ⟨g0, hg0⟩ : ∃ g0, g0 = w.heap.size := ⟨_, rfl⟩
  obtain ⟨g1, hg1⟩ : ∃ g1, g1 = w.heap.size + 1 := ⟨_, rfl⟩
  obtain ⟨g2, hg2⟩ : ∃ g2, g2 = w.heap.size + 2 := ⟨_, rfl⟩
  have HG : Hid (w.heap.size ≤ g1 ∧ w.heap.size ≤ g2 ∧ g0 ≠ g1 ∧ g0 ≠ g2 ∧ g1 ≠ g2) := by show _ ∧ _; omega
  obtain ⟨c0, c1, c2⟩ := x0.c0
  obtain ⟨c3, c4, c5⟩ := x0.c1
  obtain ⟨c6, c7, c8⟩ := x0.c2
  rw [hw0] at c0 c1 c2 c3 c4 c5 c6 c7 c8
  go_enter Try.func24, Try.ntmps24
  go_wp2_with fail
  rw [← hw0, ← hg2, ← hg1, ← hg0]
  rw [← hg0] at x0
  rw [← hg1] at x1
  rw [← hg2] at x2
  clear hw0 hg0 hg1 hg2 c0 c1 c2 c3 c4 c5 c6 c7 c8
  refine (vdot_k ha ha K1 K1 (by omega)).mono ?_
  rintro e w1 ⟨s1, no1, nn1, nc1, eo1, en1, ec1, rfl, cd, lb⟩
  generalize qa1 * qa1 + qa2 * qa2 + qa3 * qa3 = n at *
  replace ha := ha.later lb
  replace x0 := x0.later lb
  replace x1 := x1.later lb
  replace x2 := x2.later lb
  replace b0 := b0.trans (lb.mono b0.size)
  clear lb
  go_wp2_with fail
  refine (ratSqrt_k cd.rd (by omega) (by omega)).mono ?_
  rintro e w2 ⟨s2, no2, nn2, nc2, eo2, en2, ec2, rfl, cl, lb⟩
  have HG5 : Hid (w2.heap.size ≠ g1) := Nat.ne_of_gt (x1.later lb).lt
  have lc : Below w2.heap.size w2 (w2.alloc (.cells #[.bool s2, .slice no2 nn2 nc2, .slice eo2 en2 ec2] 24)) := (Below.refl _ _).alloc (Nat.le_refl _) _
  have y5 : Rb (w2.alloc (.cells #[.bool s2, .slice no2 nn2 nc2, .slice eo2 en2 ec2] 24)) w2.heap.size (.bool s2) (.slice no2 nn2 nc2) (.slice eo2 en2 ec2) := ⟨heap_alloc_new _ _⟩
  replace cl := (cl.later lc).mono (K' := 3 * (K + K) + 2) (by omega)
  replace ha := (ha.later lb).later lc
  replace x0 := (x0.later lb).later lc
  replace x1 := (x1.later lb).later lc
  replace x2 := (x2.later lb).later lc
  replace b0 := b0.trans (lb.mono b0.size)
  replace b0 := b0.trans (lc.mono b0.size)
  clear lb lc cd
  go_wp2
  generalize w2.heap.size = g5 at *
  generalize (w2.alloc (.cells #[.bool s2, .slice no2 nn2 nc2, .slice eo2 en2 ec2] 24)) = w3 at *
  have HU : Hid (uok n = decide (qsqrt n ≠ 0)) := uok_is n
  generalize hok : decide (qsqrt n ≠ 0) = ok at *
  have HLst : Lst [VC ((((1 : Int) : Rat) / ((1 : Int) : Rat))) (2), VV (.agg #[.bool s2, .slice no2 nn2 nc2, .slice eo2 en2 ec2]), VD (((((1 : Int) : Rat) / ((1 : Int) : Rat))) / (qsqrt n)) (2 + (3 * (K + K) + 2)) (ok), VD (((((1 : Int) : Rat) / ((1 : Int) : Rat))) / (qsqrt n)) (2 + (3 * (K + K) + 2)) (ok), VC (((((1 : Int) : Rat) / ((1 : Int) : Rat))) / (qsqrt n)) (2 + (3 * (K + K) + 2)), VV (.bool ok), VA w3.heap.size, VS (((((1 : Int) : Rat) / ((1 : Int) : Rat))) / (qsqrt n)) (2 + (3 * (K + K) + 2)) w3.heap.size] := ⟨VC.lasts _ _, VV.lasts _, VD.lasts _ _ _, VD.lasts _ _ _, VC.lasts _ _, VV.lasts _, VA.lasts _, VS.lasts _ _ _, trivial⟩
  have HLsS : LstS 7 0 [VC ((((1 : Int) : Rat) / ((1 : Int) : Rat))) (2), VV (.agg #[.bool s2, .slice no2 nn2 nc2, .slice eo2 en2 ec2]), VD (((((1 : Int) : Rat) / ((1 : Int) : Rat))) / (qsqrt n)) (2 + (3 * (K + K) + 2)) (ok), VD (((((1 : Int) : Rat) / ((1 : Int) : Rat))) / (qsqrt n)) (2 + (3 * (K + K) + 2)) (ok), VC (((((1 : Int) : Rat) / ((1 : Int) : Rat))) / (qsqrt n)) (2 + (3 * (K + K) + 2)), VV (.bool ok), VA w3.heap.size, VS (((((1 : Int) : Rat) / ((1 : Int) : Rat))) / (qsqrt n)) (2 + (3 * (K + K) + 2)) w3.heap.size] := ⟨fun _ => VC.lastsS _ _, fun _ => VV.lastsS _, fun _ => VD.lastsS _ _ _, fun _ => VD.lastsS _ _ _, fun _ => VC.lastsS _ _, fun _ => VV.lastsS _, fun _ => VA.lastsS _, fun h => absurd rfl h, trivial⟩
  refine wp_region_stores 8 30 [([], []), ([], [5]), ([(0, 17), (1, 18)], []), ([(2, 19)], []), ([(3, 16)], []), ([(3, 16)], []), ([], []), ([(6, 7), (4, 20)], [])]
    (fun u => Below w3.heap.size w3 u) (Grs w3.heap.size 7)
    (Sp [VC ((((1 : Int) : Rat) / ((1 : Int) : Rat))) (2), VV (.agg #[.bool s2, .slice no2 nn2 nc2, .slice eo2 en2 ec2]), VD (((((1 : Int) : Rat) / ((1 : Int) : Rat))) / (qsqrt n)) (2 + (3 * (K + K) + 2)) (ok), VD (((((1 : Int) : Rat) / ((1 : Int) : Rat))) / (qsqrt n)) (2 + (3 * (K + K) + 2)) (ok), VC (((((1 : Int) : Rat) / ((1 : Int) : Rat))) / (qsqrt n)) (2 + (3 * (K + K) + 2)), VV (.bool ok), VA w3.heap.size, VS (((((1 : Int) : Rat) / ((1 : Int) : Rat))) / (qsqrt n)) (2 + (3 * (K + K) + 2)) w3.heap.size])
    (by kernel_rfl) rfl (by kernel_rfl) (Below.refl _ _).drew (fun i k v u u' hki _ hg hs => Sp.lastsS HLst HLsS i k v u u' hki hg hs) ?_ ?_
  · clear HLst HLsS
    refine ⟨.inl ⟨by simp, fun ρ u hC hc hf hd ho => ?_⟩, .inl ⟨by simp, fun ρ u hC hc hf hd ho => ?_⟩, .inl ⟨by simp, fun ρ u hC hc hf hd ho => ?_⟩, .inl ⟨by simp, fun ρ u hC hc hf hd ho => ?_⟩, .inl ⟨by simp, fun ρ u hC hc hf hd ho => ?_⟩, .inl ⟨by simp, fun ρ u hC hc hf hd ho => ?_⟩, .inl ⟨by simp, fun ρ u hC hc hf hd ho => ?_⟩, .inl ⟨by simp, fun ρ u hC hc hf hd ho => ?_⟩, trivial⟩
    · refine Goes.call 30 #[.int .i64 1, .int .i64 1] (by go_simp) ?_
      refine Calls.mono (ratOf_k 1 1 (by omega) (by omega) (by omega) (by omega)) ?_
      rintro e u' ⟨s1, no1, nn1, nc1, eo1, en1, ec1, rfl, cq, lb⟩
      exact ⟨_, rfl, hC.trans (lb.mono hC.size), lb, ⟨s1, no1, nn1, nc1, eo1, en1, ec1, rfl, cq⟩⟩
    · have e5 : ρ (.tmp 5) = .pointer (some ⟨g5, 0, none⟩) := ho 5 (by simp)
      obtain ⟨c0, c1, c2⟩ := (y5.later hC).cells
      refine Goes.pure (.agg #[.bool s2, .slice no2 nn2 nc2, .slice eo2 en2 ec2]) ?_ ⟨hC, Below.refl _ _, rfl⟩
      unfold Goes
      go_simp
    · obtain ⟨s17, no17, nn17, nc17, eo17, en17, ec17, e17, k17⟩ : VC ((((1 : Int) : Rat) / ((1 : Int) : Rat))) (2) (ρ (.tmp 17)) u := hd (0, 17) (by simp)
      have e18 : ρ (.tmp 18) = .agg #[.bool s2, .slice no2 nn2 nc2, .slice eo2 en2 ec2] := hd (1, 18) (by simp)
      refine Goes.call 47 #[.agg #[.bool s17, .slice no17 nn17 nc17, .slice eo17 en17 ec17], .agg #[.bool s2, .slice no2 nn2 nc2, .slice eo2 en2 ec2]] (by go_simp) ?_
      refine Calls.mono (ratDiv_k k17.rd (cl.later hC).rd (by omega) (by omega) (by omega)) ?_
      rintro e u' ⟨s1, no1, nn1, nc1, eo1, en1, ec1, rfl, cq, lb⟩
      exact ⟨_, rfl, hC.trans (lb.mono hC.size), lb, ⟨s1, no1, nn1, nc1, eo1, en1, ec1, by first | (rw [hok]; done) | (rw [hok]; rfl), cq⟩⟩
    · obtain ⟨s19, no19, nn19, nc19, eo19, en19, ec19, e19, k19⟩ : VD (((((1 : Int) : Rat) / ((1 : Int) : Rat))) / (qsqrt n)) (2 + (3 * (K + K) + 2)) (ok) (ρ (.tmp 19)) u := hd (2, 19) (by simp)
      refine Goes.pure (.tuple #[.agg #[.bool s19, .slice no19 nn19 nc19, .slice eo19 en19 ec19], .bool ok]) ?_ ⟨hC, Below.refl _ _, ⟨s19, no19, nn19, nc19, eo19, en19, ec19, rfl, k19⟩⟩
      unfold Goes
      go_simp
    · obtain ⟨s16, no16, nn16, nc16, eo16, en16, ec16, e16, k16⟩ : VD (((((1 : Int) : Rat) / ((1 : Int) : Rat))) / (qsqrt n)) (2 + (3 * (K + K) + 2)) (ok) (ρ (.tmp 16)) u := hd (3, 16) (by simp)
      refine Goes.pure (.agg #[.bool s16, .slice no16 nn16 nc16, .slice eo16 en16 ec16]) ?_ ⟨hC, Below.refl _ _, ⟨s16, no16, nn16, nc16, eo16, en16, ec16, rfl, k16⟩⟩
      unfold Goes
      go_simp
    · obtain ⟨s16, no16, nn16, nc16, eo16, en16, ec16, e16, k16⟩ : VD (((((1 : Int) : Rat) / ((1 : Int) : Rat))) / (qsqrt n)) (2 + (3 * (K + K) + 2)) (ok) (ρ (.tmp 16)) u := hd (3, 16) (by simp)
      refine Goes.pure (.bool ok) ?_ ⟨hC, Below.refl _ _, rfl⟩
      unfold Goes
      go_simp
    · have lb : Below u.heap.size u (u.alloc (.cells #[.bool false, .slice none 0 0, .slice none 0 0] 24)) := (Below.refl _ _).alloc (Nat.le_refl _) _
      refine Goes.run (.pointer (some ⟨u.heap.size, 0, none⟩)) (u.alloc (.cells #[.bool false, .slice none 0 0, .slice none 0 0] 24)) (by go_simp) ⟨hC.trans (lb.mono hC.size), lb, ⟨_, rfl, hC.size, ⟨_, _, _, _, _, _, _, ⟨heap_alloc_new _ _⟩⟩⟩⟩
    · obtain ⟨g7, e7, h7, sA, noA, nnA, ncA, eoA, enA, ecA, b7⟩ : VA w3.heap.size (ρ (.tmp 7)) u := hd (6, 7) (by simp)
      obtain ⟨s20, no20, nn20, nc20, eo20, en20, ec20, e20, k20⟩ : VC (((((1 : Int) : Rat) / ((1 : Int) : Rat))) / (qsqrt n)) (2 + (3 * (K + K) + 2)) (ρ (.tmp 20)) u := hd (4, 20) (by simp)
      obtain ⟨r0, r1, r2⟩ := b7.cells
      have f0 := b7.free 0
      have f1 := b7.free 1
      have f2 := b7.free 2
      have fr := Rb.putFr g7 u (.bool s20) (.slice no20 nn20 nc20) (.slice eo20 en20 ec20)
      have bb := b7.put (.bool s20) (.slice no20 nn20 nc20) (.slice eo20 en20 ec20)
      unfold Goes
      go_simp
      exact ⟨hC.trans (fr.below h7), ⟨g7, h7, ⟨_, _, _, _, _, _, _, b7⟩, fr, ⟨_, _, _, _, _, _, _, bb⟩⟩, ⟨g7, e7, h7, _, _, _, _, _, _, _, bb, k20.store b7 fr⟩⟩
  · intro vs u hC hv hwd
    obtain ⟨g7, e10, hg7, s7, no7, nn7, nc7, eo7, en7, ec7, y7, cq7⟩ : VS (((((1 : Int) : Rat) / ((1 : Int) : Rat))) / (qsqrt n)) (2 + (3 * (K + K) + 2)) w3.heap.size (vs 7) u := hv 7 (by omega)
    rw [hwd 7 6 (by omega) rfl] at e10
    have e21 : vs 5 = .bool ok := hv 5 (by omega)
    have HG7 : Hid (g7 ≠ g1) := by have := x1.lt; show g7 ≠ g1; omega
    clear hv hwd hg7
    replace ha := ha.later hC
    replace x0 := x0.later hC
    replace x1 := x1.later hC
    replace x2 := x2.later hC
    replace y5 := y5.later hC
    replace cl := cl.later hC
    replace b0 := b0.trans (hC.mono b0.size)
    replace cq7 := cq7.mono (K' := 6 * K + 4) (by omega)
    rw [show ((((1 : Int) : Rat) / ((1 : Int) : Rat))) / (qsqrt n) = 1 / qsqrt n from by simp; grind] at cq7
    clear hC
    simp only [puts, List.take, List.drop, Act.put, List.setIfInBounds_toArray, List.set_cons_succ, List.set_cons_zero, Nat.reduceAdd, e21, e10]
    clear e21 e10
    cases ok
    · have HV : Hid (∀ x, uv n x = 0) := fun x => by unfold uv; rw [HU.out]; rfl
      have HL : Hid (ul n = 0) := by show ul n = 0; unfold ul; rw [HU.out]; rfl
      clear hok y5 cl cq7 y7 ha
      go_wp2_with fail
      refine (vof_k (w := u) (x := 0) (y := 0) (z := 0) (by omega) (by omega) (by omega) (by omega) (by omega) (by omega)).mono ?_
      rintro e w5 ⟨za, zb, zc, rfl, cz, lb⟩
      replace x1 := x1.later lb
      replace x2 := x2.later lb
      replace b0 := b0.trans (lb.mono b0.size)
      clear lb
      rw [show (((0 : Int) : Rat) / ((1 : Int) : Rat)) = 0 from by simp; grind] at cz
      go_wp2_with fail
      refine (ratOf_k 0 1 (by omega) (by omega) (by omega) (by omega)).mono ?_
      rintro e w6 ⟨s9, no9, nn9, nc9, eo9, en9, ec9, rfl, c9, lb⟩
      replace x1 := x1.later lb
      replace x2 := x2.later lb
      replace cz := cz.later lb
      replace b0 := b0.trans (lb.mono b0.size)
      clear lb
      rw [show (((0 : Int) : Rat) / ((1 : Int) : Rat)) = 0 from by simp; grind] at c9
      obtain ⟨c0, c1, c2⟩ := x1.c0
      obtain ⟨c3, c4, c5⟩ := x1.c1
      obtain ⟨c6, c7, c8⟩ := x1.c2
      have f0 := x1.free 0
      have f1 := x1.free 1
      have f2 := x1.free 2
      have f3 := x1.free 3
      have f4 := x1.free 4
      have f5 := x1.free 5
      have f6 := x1.free 6
      have f7 := x1.free 7
      have f8 := x1.free 8
      obtain ⟨d0, d1, d2⟩ := x2.cells
      have e0 := x2.free 0
      have e1 := x2.free 1
      have e2 := x2.free 2
      have n12 : ¬ g1 = g2 := HG.out.2.2.2.2
      have n21 : ¬ g2 = g1 := fun e => n12 e.symm
      go_wp2
      refine ret_storeU (e := zRP) (ok := uok n) (p := za) (q := zb) (r := zc) (d := ⟨s9, no9, nn9, nc9, eo9, en9, ec9⟩) rfl rfl rfl ?_ rfl x1 x2 HG.out.2.2.2.2 HG.out.1 HG.out.2.1 ?_ ?_ b0
      · rw [HU.out]; rfl
      · rw [HV.out, HV.out, HV.out]; exact cz.mono (by omega)
      · rw [HL.out]; exact c9.mono (by omega)
    · have HV : Hid (∀ x, uv n x = 1 / qsqrt n * x) := fun x => by unfold uv; rw [HU.out]; rfl
      have HL : Hid (ul n = qsqrt n) := by show ul n = _; unfold ul; rw [HU.out]; rfl
      clear hok
      go_wp2
      generalize u = w4 at *
      have HA : Hid (∀ u, BX g1 w4 u → Qv u a1 a2 a3 qa1 qa2 qa3 K) := fun u hx => ha.bx x1 hx
      have CL : Hid (∀ u, BX g1 w4 u → Cq u s2 no2 nn2 nc2 eo2 en2 ec2 (qsqrt n) (3 * (K + K) + 2)) := fun u hx => cl.bx x1 hx
      have C7 : Hid (∀ u, BX g1 w4 u → Cq u s7 no7 nn7 nc7 eo7 en7 ec7 (1 / qsqrt n) (6 * K + 4)) := fun u hx => cq7.bx x1 hx
      have X0 : Hid (∀ u, BX g1 w4 u → Vb u g0 a1 a2 a3) := fun u hx => x0.keep (hx.block g0 x0.lt HG.out.2.2.1)
      have Y5 : Hid (∀ u, BX g1 w4 u → Rb u g5 (.bool s2) (.slice no2 nn2 nc2) (.slice eo2 en2 ec2)) := fun u hx => y5.keep (hx.block g5 y5.lt HG5.out)
      have Y7 : Hid (∀ u, BX g1 w4 u → Rb u g7 (.bool s7) (.slice no7 nn7 nc7) (.slice eo7 en7 ec7)) := fun u hx => y7.keep (hx.block g7 y7.lt HG7.out)
      have X2 : Hid (∀ u, BX g1 w4 u → Rb u g2 (.bool false) (.slice none 0 0) (.slice none 0 0)) := fun u hx => x2.keep (hx.block g2 x2.lt (fun e => HG.out.2.2.2.2 e.symm))
      have HLst : Lst [VV (.agg #[.bool s7, .slice no7 nn7 nc7, .slice eo7 en7 ec7]), VV (.agg #[.bool a1.s, .slice a1.no a1.nn a1.nc, .slice a1.eo a1.en a1.ec, .bool a2.s, .slice a2.no a2.nn a2.nc, .slice a2.eo a2.en a2.ec, .bool a3.s, .slice a3.no a3.nn a3.nc, .slice a3.eo a3.en a3.ec]), VG (1 / qsqrt n * qa1) (1 / qsqrt n * qa2) (1 / qsqrt n * qa3) (6 * K + 4 + (K)), VV (.agg #[.bool s2, .slice no2 nn2 nc2, .slice eo2 en2 ec2]), VSg g1] := ⟨VV.lasts _, VV.lasts _, VG.lasts _ _ _ _, VV.lasts _, VSg.lasts _, trivial⟩
      have HLsS : LstV g1 4 0 [VV (.agg #[.bool s7, .slice no7 nn7 nc7, .slice eo7 en7 ec7]), VV (.agg #[.bool a1.s, .slice a1.no a1.nn a1.nc, .slice a1.eo a1.en a1.ec, .bool a2.s, .slice a2.no a2.nn a2.nc, .slice a2.eo a2.en a2.ec, .bool a3.s, .slice a3.no a3.nn a3.nc, .slice a3.eo a3.en a3.ec]), VG (1 / qsqrt n * qa1) (1 / qsqrt n * qa2) (1 / qsqrt n * qa3) (6 * K + 4 + (K)), VV (.agg #[.bool s2, .slice no2 nn2 nc2, .slice eo2 en2 ec2]), VSg g1] := ⟨fun _ => VV.lastsV _ _, fun _ => VV.lastsV _ _, fun _ => VG.lastsV _ _ _ _ _, fun _ => VV.lastsV _ _, fun h => absurd rfl h, trivial⟩
      refine wp_region_stores 5 30 [([], [7]), ([], [1]), ([(0, 26), (1, 27)], []), ([], [5]), ([(2, 28)], [2])]
        (fun u => BX g1 w4 u) (Grv g1 4)
        (Sp [VV (.agg #[.bool s7, .slice no7 nn7 nc7, .slice eo7 en7 ec7]), VV (.agg #[.bool a1.s, .slice a1.no a1.nn a1.nc, .slice a1.eo a1.en a1.ec, .bool a2.s, .slice a2.no a2.nn a2.nc, .slice a2.eo a2.en a2.ec, .bool a3.s, .slice a3.no a3.nn a3.nc, .slice a3.eo a3.en a3.ec]), VG (1 / qsqrt n * qa1) (1 / qsqrt n * qa2) (1 / qsqrt n * qa3) (6 * K + 4 + (K)), VV (.agg #[.bool s2, .slice no2 nn2 nc2, .slice eo2 en2 ec2]), VSg g1])
        (by kernel_rfl) rfl (by kernel_rfl) (BX.start x1) (fun i k v u u' hki _ hg hs => Sp.lastsV HLst HLsS i k v u u' hki hg hs) ?_ ?_
      · clear HLst HLsS
        refine ⟨.inl ⟨by simp, fun ρ u hC hc hf hd ho => ?_⟩, .inl ⟨by simp, fun ρ u hC hc hf hd ho => ?_⟩, .inl ⟨by simp, fun ρ u hC hc hf hd ho => ?_⟩, .inl ⟨by simp, fun ρ u hC hc hf hd ho => ?_⟩, .inl ⟨by simp, fun ρ u hC hc hf hd ho => ?_⟩, trivial⟩
        · have e7 : ρ (.tmp 7) = .pointer (some ⟨g7, 0, none⟩) := ho 7 (by simp)
          obtain ⟨c0, c1, c2⟩ := (Y7.out u hC).cells
          refine Goes.pure (.agg #[.bool s7, .slice no7 nn7 nc7, .slice eo7 en7 ec7]) ?_ ⟨hC, Below.refl _ _, rfl⟩
          unfold Goes
          go_simp
        · have e1 : ρ (.tmp 1) = .pointer (some ⟨g0, 0, none⟩) := ho 1 (by simp)
          obtain ⟨c0, c1, c2⟩ := (X0.out u hC).c0
          obtain ⟨c3, c4, c5⟩ := (X0.out u hC).c1
          obtain ⟨c6, c7, c8⟩ := (X0.out u hC).c2
          refine Goes.pure (.agg #[.bool a1.s, .slice a1.no a1.nn a1.nc, .slice a1.eo a1.en a1.ec, .bool a2.s, .slice a2.no a2.nn a2.nc, .slice a2.eo a2.en a2.ec, .bool a3.s, .slice a3.no a3.nn a3.nc, .slice a3.eo a3.en a3.ec]) ?_ ⟨hC, Below.refl _ _, rfl⟩
          unfold Goes
          go_simp
        · have e26 : ρ (.tmp 26) = .agg #[.bool s7, .slice no7 nn7 nc7, .slice eo7 en7 ec7] := hd (0, 26) (by simp)
          have e27 : ρ (.tmp 27) = .agg #[.bool a1.s, .slice a1.no a1.nn a1.nc, .slice a1.eo a1.en a1.ec, .bool a2.s, .slice a2.no a2.nn a2.nc, .slice a2.eo a2.en a2.ec, .bool a3.s, .slice a3.no a3.nn a3.nc, .slice a3.eo a3.en a3.ec] := hd (1, 27) (by simp)
          refine Goes.call 14 #[.agg #[.bool s7, .slice no7 nn7 nc7, .slice eo7 en7 ec7], .agg #[.bool a1.s, .slice a1.no a1.nn a1.nc, .slice a1.eo a1.en a1.ec, .bool a2.s, .slice a2.no a2.nn a2.nc, .slice a2.eo a2.en a2.ec, .bool a3.s, .slice a3.no a3.nn a3.nc, .slice a3.eo a3.en a3.ec]] (by go_simp) ?_
          refine Calls.mono (vscale_k (k := ⟨s7, no7, nn7, nc7, eo7, en7, ec7⟩) (C7.out u hC).rd (HA.out u hC) (by omega) (by omega) (by omega)) ?_
          rintro e u' ⟨ra, rb, rc, rfl, cv, lb⟩
          exact ⟨_, rfl, hC.trans (lb.mono hC.size), lb, ⟨ra, rb, rc, rfl, cv⟩⟩
        · have e5 : ρ (.tmp 5) = .pointer (some ⟨g5, 0, none⟩) := ho 5 (by simp)
          obtain ⟨c0, c1, c2⟩ := (Y5.out u hC).cells
          refine Goes.pure (.agg #[.bool s2, .slice no2 nn2 nc2, .slice eo2 en2 ec2]) ?_ ⟨hC, Below.refl _ _, rfl⟩
          unfold Goes
          go_simp
        · obtain ⟨ra28, rb28, rc28, e28, k28⟩ : VG (1 / qsqrt n * qa1) (1 / qsqrt n * qa2) (1 / qsqrt n * qa3) (6 * K + 4 + (K)) (ρ (.tmp 28)) u := hd (2, 28) (by simp)
          have e2 : ρ (.tmp 2) = .pointer (some ⟨g1, 0, none⟩) := ho 2 (by simp)
          obtain ⟨va, vb, vc, hvv⟩ := hC.vec
          obtain ⟨c0, c1, c2⟩ := hvv.c0
          obtain ⟨c3, c4, c5⟩ := hvv.c1
          obtain ⟨c6, c7, c8⟩ := hvv.c2
          have f0 := hvv.free 0
          have f1 := hvv.free 1
          have f2 := hvv.free 2
          have f3 := hvv.free 3
          have f4 := hvv.free 4
          have f5 := hvv.free 5
          have f6 := hvv.free 6
          have f7 := hvv.free 7
          have f8 := hvv.free 8
          have fr := putV.fr g1 u ra28 rb28 rc28
          have bb := hvv.put ra28 rb28 rc28
          unfold Goes
          go_simp
          exact ⟨hC.store fr bb, ⟨⟨va, vb, vc, hvv⟩, fr⟩, ⟨ra28, rb28, rc28, e28, bb⟩⟩
      · intro vs u hC hv hwd
        obtain ⟨ra, rb, rc, eR, cv⟩ : VG (1 / qsqrt n * qa1) (1 / qsqrt n * qa2) (1 / qsqrt n * qa3) (6 * K + 4 + (K)) (vs 2) u := hv 2 (by omega)
        have eL : vs 3 = .agg #[.bool s2, .slice no2 nn2 nc2, .slice eo2 en2 ec2] := hv 3 (by omega)
        have eS : VSg g1 (vs 2) u := by
          have h6 : VSg g1 (vs 4) u := hv 4 (by omega)
          rw [hwd 4 2 (by omega) rfl] at h6
          exact h6
        obtain ⟨va, vb, vc, eV, hvv⟩ := eS
        have hvr : Vb u g1 ra rb rc := ⟨by rw [hvv.at_, Value.agg.inj (eV.symm.trans eR)]⟩
        have xr := X2.out u hC
        obtain ⟨d0, d1, d2⟩ := xr.cells
        have p0 := xr.free 0
        have p1 := xr.free 1
        have p2 := xr.free 2
        have clu := CL.out u hC
        have f2 := Rb.putFr g2 u (.bool s2) (.slice no2 nn2 nc2) (.slice eo2 en2 ec2)
        have B6 := (b0.trans (hC.below HG.out.1)).trans (f2.below HG.out.2.1)
        have xz : Rb u g2 (.bool zRP.s) (.slice zRP.no zRP.nn zRP.nc) (.slice zRP.eo zRP.en zRP.ec) := xr
        clear hv hwd hC eV hvv
        simp only [puts, List.take, List.drop, Act.put, List.setIfInBounds_toArray, List.set_cons_succ, List.set_cons_zero, Nat.reduceAdd, eR, eL]
        go_wp2
        refine ret_vrb rfl rfl rfl rfl rfl (hvr.keep (f2.block g1 HG.out.2.2.2.2)) (xr.put _ _ _) ⟨ra, rb, rc, ⟨s2, no2, nn2, nc2, eo2, en2, ec2⟩, ?_, ?_, ?_, B6⟩
        · rw [HU.out]; rfl
        · rw [HV.out, HV.out, HV.out]
          exact ⟨(cv.x.store xz f2).mono (by omega), (cv.y.store xz f2).mono (by omega), (cv.z.store xz f2).mono (by omega)⟩
        · rw [HL.out]; exact (clu.store xz f2).mono (by omega)
end Go.Proofs.Ytmbemidacilakaa

/- package vec: Sum, of at most three. -/
namespace Go.Proofs.Ytmbemidacilakaa
open Go.RowKit M Kahn
set_option maxRecDepth 100000

/-- The cells of some Vecs. -/
structure Trv (u : World) (ao : Option Addr) (ts : List TP) : Prop where
  there : 0 < ts.length → ∃ b o, ao = some ⟨b, o, none⟩ ∧ b < u.heap.size ∧ ∀ i v, (TP.all ts)[i]? = some v → u.cell? ⟨b, o + i, none⟩ = some v
theorem Trv.later {u u' : World} {ao : Option Addr} {ts : List TP} (h : Trv u ao ts) (hb : Below u.heap.size u u') : Trv u' ao ts := ⟨fun h0 => by
  obtain ⟨b, o, e1, e2, e3⟩ := h.there h0
  exact ⟨b, o, e1, Nat.lt_of_lt_of_le e2 hb.size, fun i v hv => by rw [hb.cell (p := ⟨b, o + i, none⟩) e2]; exact e3 i v hv⟩⟩
theorem Trv.elem {u : World} {ao : Option Addr} {ts : List TP} (h : Trv u ao ts) {k : Nat} {t : TP} (ht : ts[k]? = some t) :
    ∃ b o, ao = some ⟨b, o, none⟩ ∧ u.cell? ⟨b, o + k * 9, none⟩ = some (.bool t.x.s) ∧ u.cell? ⟨b, o + k * 9 + 1, none⟩ = some (.slice t.x.no t.x.nn t.x.nc) ∧ u.cell? ⟨b, o + k * 9 + 2, none⟩ = some (.slice t.x.eo t.x.en t.x.ec) ∧ u.cell? ⟨b, o + k * 9 + 3, none⟩ = some (.bool t.y.s) ∧ u.cell? ⟨b, o + k * 9 + 4, none⟩ = some (.slice t.y.no t.y.nn t.y.nc) ∧ u.cell? ⟨b, o + k * 9 + 5, none⟩ = some (.slice t.y.eo t.y.en t.y.ec) ∧ u.cell? ⟨b, o + k * 9 + 6, none⟩ = some (.bool t.z.s) ∧ u.cell? ⟨b, o + k * 9 + 7, none⟩ = some (.slice t.z.no t.z.nn t.z.nc) ∧ u.cell? ⟨b, o + k * 9 + 8, none⟩ = some (.slice t.z.eo t.z.en t.z.ec) := by
  have hk : k < ts.length := by
    rcases Nat.lt_or_ge k ts.length with h1 | h1
    · exact h1
    · rw [List.getElem?_eq_none h1] at ht; cases ht
  obtain ⟨b, o, e1, e2, e3⟩ := h.there (by omega)
  have H : ∀ j v, j < 9 → t.cells[j]? = some v → u.cell? ⟨b, o + k * 9 + j, none⟩ = some v := fun j v hj hv => by
    have := e3 (k * 9 + j) v (by rw [TP.all_get ts k t ht j hj]; exact hv)
    rwa [← Nat.add_assoc] at this
  exact ⟨b, o, e1, H 0 _ (by omega) rfl, H 1 _ (by omega) rfl, H 2 _ (by omega) rfl, H 3 _ (by omega) rfl, H 4 _ (by omega) rfl, H 5 _ (by omega) rfl, H 6 _ (by omega) rfl, H 7 _ (by omega) rfl, H 8 _ (by omega) rfl⟩
/-- The first k have been laid. -/
def fill (xs : List RP) (k : Nat) : List RP := xs.take k ++ List.replicate (xs.length - k) zRP
theorem fill_len {xs : List RP} {k : Nat} (hk : k ≤ xs.length) : (fill xs k).length = xs.length := by
  unfold fill
  rw [List.length_append, List.length_take, List.length_replicate]
  omega
theorem fill_zero (xs : List RP) : fill xs 0 = List.replicate xs.length zRP := rfl
theorem fill_all (xs : List RP) : fill xs xs.length = xs := by
  unfold fill
  simp
theorem fill_at {xs : List RP} {k : Nat} (hk : k < xs.length) : (fill xs k)[k]? = some zRP := by
  unfold fill
  rw [List.getElem?_append_right (by rw [List.length_take]; omega), List.getElem?_replicate, if_pos (by rw [List.length_take]; omega)]
theorem fill_set {xs : List RP} {k : Nat} {r : RP} (hr : xs[k]? = some r) : (fill xs k).set k r = fill xs (k + 1) := by
  have hk : k < xs.length := by
    rcases Nat.lt_or_ge k xs.length with h1 | h1
    · exact h1
    · rw [List.getElem?_eq_none h1] at hr; cases hr
  unfold fill
  rw [List.set_append_right k r (by rw [List.length_take]; omega), List.take_add_one, hr]
  rw [List.length_take, Nat.min_eq_left (by omega), Nat.sub_self, show xs.length - k = (xs.length - (k + 1)) + 1 from by omega, List.replicate_succ]
  simp
/-- What lasts in the loop. -/
structure Ls (w : World) (g gx gy gz : Nat) (ts : List TP) (k : Nat) (u : World) : Prop where
  bel : Below w.heap.size w u
  ans : Vb u g zRP zRP zRP
  x : Rw u gx (fill (ts.map TP.x) k)
  y : Rw u gy (fill (ts.map TP.y) k)
  z : Rw u gz (fill (ts.map TP.z) k)
/-- The two first stores of a round, each done or not. -/
structure X5 (w : World) (gx gy gz k : Nat) (t : TP) (rx ry rz : List RP) (b1 b2 : Bool) (u : World) : Prop where
  os : u.os = w.os
  tape : u.tape = w.tape
  output : u.output = w.output
  size : u.heap.size = w.heap.size
  block : ∀ j, j ≠ gx → j ≠ gy → u.heap[j]? = w.heap[j]?
  x : Rw u gx (if b1 then rx.set k t.x else rx)
  y : Rw u gy (if b2 then ry.set k t.y else ry)
theorem X5.put1 {w u : World} {gx gy gz k : Nat} {t : TP} {rx ry rz : List RP} {b2 : Bool} (h : X5 w gx gy gz k t rx ry rz false b2 u) (hne : gx ≠ gy) : X5 w gx gy gz k t rx ry rz true b2 (putR u gx (k * 3) t.x) :=
  have fr := putR.fr u gx (k * 3) t.x
  ⟨fr.os.trans h.os, fr.tape.trans h.tape, fr.output.trans h.output, fr.size.trans h.size, fun j h1 h2 => (fr.block j h1).trans (h.block j h1 h2), h.x.put k t.x, h.y.keep (fr.block gy (Ne.symm hne))⟩
theorem X5.put2 {w u : World} {gx gy gz k : Nat} {t : TP} {rx ry rz : List RP} {b1 : Bool} (h : X5 w gx gy gz k t rx ry rz b1 false u) (hne : gx ≠ gy) : X5 w gx gy gz k t rx ry rz b1 true (putR u gy (k * 3) t.y) :=
  have fr := putR.fr u gy (k * 3) t.y
  ⟨fr.os.trans h.os, fr.tape.trans h.tape, fr.output.trans h.output, fr.size.trans h.size, fun j h1 h2 => (fr.block j h2).trans (h.block j h1 h2), h.x.keep (fr.block gx hne), h.y.put k t.y⟩
theorem X5.below {w u : World} {gx gy gz k N : Nat} {t : TP} {rx ry rz : List RP} {b1 b2 : Bool} (h : X5 w gx gy gz k t rx ry rz b1 b2 u) (hx : N ≤ gx) (hy : N ≤ gy) : Below N w u := ⟨h.os, h.tape, h.output, by rw [h.size]; exact Nat.le_refl _, fun j hj => h.block j (by omega) (by omega)⟩

set_option maxHeartbeats 8000000 in
theorem vsum_k {w : World} {K : Nat} {v : Value} {ps qs rs : List Rat} (h : VW ps qs rs K v w) (hK1 : 1 ≤ K) (hK : (ps.length + 1) * (K + 1) ≤ 4294967296) (h3 : ps.length ≤ 3 := by simp) :
    Calls Try.prog 10 #[v] w (Gv3 w (ps.length * (K + 1) + 1) (qsum ps) (qsum qs) (qsum rs)) := by
  obtain ⟨ao, cap, ts, hv, hcap, l1, l2, l3, h6⟩ := h
  subst hv
  have e1 := l1.len
  have e2 := l2.len
  have e3 := l3.len
  rw [List.length_map] at e1 e2 e3
  obtain ⟨n, hn⟩ : ∃ n, n = ps.length := ⟨_, rfl⟩
  have HP : Hid (ts.length = n ∧ ps.length = n ∧ qs.length = n ∧ rs.length = n) := by show _ ∧ _ ∧ _ ∧ _; omega
  have tr : Trv w ao ts := ⟨fun h0 => h6 (by omega)⟩
  rw [← hn] at hcap hK h3 ⊢
  have HN2 : Hid (n ≤ 1099511627776) := by show n ≤ _; omega
  clear hn e1 e2 e3 h6
  obtain ⟨w0, hw0, ans, b0⟩ := bx_v w
  obtain ⟨g, hg⟩ : ∃ g, g = w.heap.size := ⟨_, rfl⟩
  have HG : Hid (w.heap.size ≤ g) := by show w.heap.size ≤ g; omega
  have HI : Hid (∀ u, Below w.heap.size w u → RL u K (ts.map TP.x) ps ∧ RL u K (ts.map TP.y) qs ∧ RL u K (ts.map TP.z) rs ∧ Trv u ao ts) := fun u hu => ⟨l1.later hu, l2.later hu, l3.later hu, tr.later hu⟩
  clear l1 l2 l3 tr
  go_enter Try.func10, Try.ntmps10
  go_wp2
  rw [← hw0, ← hg]
  rw [← hg] at ans
  clear hw0 hg
  refine wp_region_inv 11 47 [([], [0]), ([(0, 8)], []), ([(1, 9)], []), ([], [0]), ([(3, 11)], []), ([(4, 12)], []), ([], [0]), ([(6, 14)], []), ([(7, 15)], []), ([(2, 10)], []), ([(5, 13)], [])]
    (fun L vs u => Know [some (.slice ao n cap), some (.int .i64 (n : Int)), none, some (.slice ao n cap), some (.int .i64 (n : Int)), none, some (.slice ao n cap), some (.int .i64 (n : Int)), none, none, none] L vs ∧ Below w0.heap.size w0 u ∧ Own1 (fun g => .slice (some ⟨g, 0, none⟩) n n) w0.heap.size (.cells (RP.all (List.replicate n zRP)).toArray 24 (0, 0)) (L 2) (vs 2) u ∧ Own1 (fun g => .slice (some ⟨g, 0, none⟩) n n) w0.heap.size (.cells (RP.all (List.replicate n zRP)).toArray 24 (0, 0)) (L 5) (vs 5) u ∧ Own1 (fun g => .slice (some ⟨g, 0, none⟩) n n) w0.heap.size (.cells (RP.all (List.replicate n zRP)).toArray 24 (0, 0)) (L 8) (vs 8) u ∧ Apart (L 2) (vs 2) (L 5) (vs 5) ∧ Apart (L 2) (vs 2) (L 8) (vs 8) ∧ Apart (L 5) (vs 5) (L 8) (vs 8) ∧ (L 9 = true → L 2 = true ∧ vs 9 = vs 2) ∧ (L 10 = true → L 5 = true ∧ vs 10 = vs 5))
    (by kernel_rfl) rfl (by kernel_rfl) (fun vs => ⟨Know.start _ _, (Below.refl _ _).drew, Own1.no, Own1.no, Own1.no, Apart.no1, Apart.no1, Apart.no1, fun h => (by cases h), fun h => (by cases h)⟩) ?_ ?_
  · refine ⟨fun L vs ρ u hJ hL hc hf hd ho => ?_, fun L vs ρ u hJ hL hc hf hd ho => ?_, fun L vs ρ u hJ hL hc hf hd ho => ?_, fun L vs ρ u hJ hL hc hf hd ho => ?_, fun L vs ρ u hJ hL hc hf hd ho => ?_, fun L vs ρ u hJ hL hc hf hd ho => ?_, fun L vs ρ u hJ hL hc hf hd ho => ?_, fun L vs ρ u hJ hL hc hf hd ho => ?_, fun L vs ρ u hJ hL hc hf hd ho => ?_, fun L vs ρ u hJ hL hc hf hd ho => ?_, fun L vs ρ u hJ hL hc hf hd ho => ?_, trivial⟩
    · obtain ⟨hK, hB, o2, o5, o8, a25, a28, a58, q9, q10⟩ := hJ
      have e0 : ρ (.tmp 0) = .slice ao n cap := ho 0 (by simp)
      refine Goes.pure (.slice ao n cap) ?_ ⟨hK.pure rfl, hB, o2, o5, o8, a25, a28, a58, q9, q10⟩
      unfold Goes
      go_simp
    · obtain ⟨hK, hB, o2, o5, o8, a25, a28, a58, q9, q10⟩ := hJ
      have e8 : ρ (.tmp 8) = .slice ao n cap := (hd (0, 8) (by simp)).2.trans (hK 0 _ rfl (hd (0, 8) (by simp)).1)
      refine Goes.pure (.int .i64 (n : Int)) ?_ ⟨hK.pure rfl, hB, o2, o5, o8, a25, a28, a58, q9, q10⟩
      unfold Goes
      go_simp
    · obtain ⟨hK, hB, o2, o5, o8, a25, a28, a58, q9, q10⟩ := hJ
      have e9 : ρ (.tmp 9) = .int .i64 (n : Int) := (hd (1, 9) (by simp)).2.trans (hK 1 _ rfl (hd (1, 9) (by simp)).1)
      have hmk := make_runR n HN2.out u
      have lb : Below u.heap.size u (u.alloc (.cells (RP.all (List.replicate n zRP)).toArray 24)) := (Below.refl _ _).alloc (Nat.le_refl _) _
      unfold Goes
      go_simp
      exact ⟨hK.other rfl, hB.trans (lb.mono hB.size), fun _ => ⟨u.heap.size, rfl, hB.size, heap_alloc_new _ _⟩, o5.later lb, o8.later lb, (o5.apart (pt' := fun g => .slice (some ⟨g, 0, none⟩) n n) (fun a b e => by simpa using e)).symm, (o8.apart (pt' := fun g => .slice (some ⟨g, 0, none⟩) n n) (fun a b e => by simpa using e)).symm, a58, fun h => absurd (q9 h).1 (by rw [hL]; simp), q10⟩
    · obtain ⟨hK, hB, o2, o5, o8, a25, a28, a58, q9, q10⟩ := hJ
      have e0 : ρ (.tmp 0) = .slice ao n cap := ho 0 (by simp)
      refine Goes.pure (.slice ao n cap) ?_ ⟨hK.pure rfl, hB, o2, o5, o8, a25, a28, a58, q9, q10⟩
      unfold Goes
      go_simp
    · obtain ⟨hK, hB, o2, o5, o8, a25, a28, a58, q9, q10⟩ := hJ
      have e11 : ρ (.tmp 11) = .slice ao n cap := (hd (3, 11) (by simp)).2.trans (hK 3 _ rfl (hd (3, 11) (by simp)).1)
      refine Goes.pure (.int .i64 (n : Int)) ?_ ⟨hK.pure rfl, hB, o2, o5, o8, a25, a28, a58, q9, q10⟩
      unfold Goes
      go_simp
    · obtain ⟨hK, hB, o2, o5, o8, a25, a28, a58, q9, q10⟩ := hJ
      have e12 : ρ (.tmp 12) = .int .i64 (n : Int) := (hd (4, 12) (by simp)).2.trans (hK 4 _ rfl (hd (4, 12) (by simp)).1)
      have hmk := make_runR n HN2.out u
      have lb : Below u.heap.size u (u.alloc (.cells (RP.all (List.replicate n zRP)).toArray 24)) := (Below.refl _ _).alloc (Nat.le_refl _) _
      unfold Goes
      go_simp
      exact ⟨hK.other rfl, hB.trans (lb.mono hB.size), o2.later lb, fun _ => ⟨u.heap.size, rfl, hB.size, heap_alloc_new _ _⟩, o8.later lb, o2.apart (pt' := fun g => .slice (some ⟨g, 0, none⟩) n n) (fun a b e => by simpa using e), a28, (o8.apart (pt' := fun g => .slice (some ⟨g, 0, none⟩) n n) (fun a b e => by simpa using e)).symm, q9, fun h => absurd (q10 h).1 (by rw [hL]; simp)⟩
    · obtain ⟨hK, hB, o2, o5, o8, a25, a28, a58, q9, q10⟩ := hJ
      have e0 : ρ (.tmp 0) = .slice ao n cap := ho 0 (by simp)
      refine Goes.pure (.slice ao n cap) ?_ ⟨hK.pure rfl, hB, o2, o5, o8, a25, a28, a58, q9, q10⟩
      unfold Goes
      go_simp
    · obtain ⟨hK, hB, o2, o5, o8, a25, a28, a58, q9, q10⟩ := hJ
      have e14 : ρ (.tmp 14) = .slice ao n cap := (hd (6, 14) (by simp)).2.trans (hK 6 _ rfl (hd (6, 14) (by simp)).1)
      refine Goes.pure (.int .i64 (n : Int)) ?_ ⟨hK.pure rfl, hB, o2, o5, o8, a25, a28, a58, q9, q10⟩
      unfold Goes
      go_simp
    · obtain ⟨hK, hB, o2, o5, o8, a25, a28, a58, q9, q10⟩ := hJ
      have e15 : ρ (.tmp 15) = .int .i64 (n : Int) := (hd (7, 15) (by simp)).2.trans (hK 7 _ rfl (hd (7, 15) (by simp)).1)
      have hmk := make_runR n HN2.out u
      have lb : Below u.heap.size u (u.alloc (.cells (RP.all (List.replicate n zRP)).toArray 24)) := (Below.refl _ _).alloc (Nat.le_refl _) _
      unfold Goes
      go_simp
      exact ⟨hK.other rfl, hB.trans (lb.mono hB.size), o2.later lb, o5.later lb, fun _ => ⟨u.heap.size, rfl, hB.size, heap_alloc_new _ _⟩, a25, o2.apart (pt' := fun g => .slice (some ⟨g, 0, none⟩) n n) (fun a b e => by simpa using e), o5.apart (pt' := fun g => .slice (some ⟨g, 0, none⟩) n n) (fun a b e => by simpa using e), q9, q10⟩
    · obtain ⟨hK, hB, o2, o5, o8, a25, a28, a58, q9, q10⟩ := hJ
      have e10 : ρ (.tmp 10) = vs 2 := (hd (2, 10) (by simp)).2
      refine Goes.pure (vs 2) ?_ ⟨hK.other rfl, hB, o2, o5, o8, a25, a28, a58, fun _ => ⟨(hd (2, 10) (by simp)).1, rfl⟩, q10⟩
      unfold Goes
      go_simp
    · obtain ⟨hK, hB, o2, o5, o8, a25, a28, a58, q9, q10⟩ := hJ
      have e13 : ρ (.tmp 13) = vs 5 := (hd (5, 13) (by simp)).2
      refine Goes.pure (vs 5) ?_ ⟨hK.other rfl, hB, o2, o5, o8, a25, a28, a58, q9, fun _ => ⟨(hd (5, 13) (by simp)).1, rfl⟩⟩
      unfold Goes
      go_simp
  · intro L vs u hL hJ
    obtain ⟨hK0, hB, o2, o5, o8, a25, a28, a58, q9, q10⟩ := hJ
    obtain ⟨gx, ex, bx, rx⟩ := o2 (hL 2 (by omega))
    obtain ⟨gy, ey, by_, ry⟩ := o5 (hL 5 (by omega))
    obtain ⟨gz, ez, bz, rz⟩ := o8 (hL 8 (by omega))
    have q9 := (q9 (hL 9 (by omega))).2
    have q10 := (q10 (hL 10 (by omega))).2
    have HD : Hid (gx ≠ gy ∧ gx ≠ gz ∧ gy ≠ gz) := ⟨fun e => a25 (hL 2 (by omega)) (hL 5 (by omega)) (by rw [ex, ey, e]), fun e => a28 (hL 2 (by omega)) (hL 8 (by omega)) (by rw [ex, ez, e]), fun e => a58 (hL 5 (by omega)) (hL 8 (by omega)) (by rw [ey, ez, e])⟩
    have HE : Hid (w.heap.size ≤ gx ∧ w.heap.size ≤ gy ∧ w.heap.size ≤ gz) := by have := b0.size; show _ ∧ _ ∧ _; omega
    have k0 : vs 0 = .slice ao n cap := hK0 0 _ rfl (hL 0 (by omega))
    have k1 : vs 1 = .int .i64 (n : Int) := hK0 1 _ rfl (hL 1 (by omega))
    have k3 : vs 3 = .slice ao n cap := hK0 3 _ rfl (hL 3 (by omega))
    have k4 : vs 4 = .int .i64 (n : Int) := hK0 4 _ rfl (hL 4 (by omega))
    have k6 : vs 6 = .slice ao n cap := hK0 6 _ rfl (hL 6 (by omega))
    have k7 : vs 7 = .int .i64 (n : Int) := hK0 7 _ rfl (hL 7 (by omega))
    have LS : Ls w g gx gy gz ts 0 u := ⟨b0.trans (hB.mono b0.size), ans.later hB, ⟨by rw [fill_zero, List.length_map, HP.out.1]; exact rx⟩, ⟨by rw [fill_zero, List.length_map, HP.out.1]; exact ry⟩, ⟨by rw [fill_zero, List.length_map, HP.out.1]; exact rz⟩⟩
    have HA : Hid (g ≠ gx ∧ g ≠ gy ∧ g ≠ gz) := by have := ans.lt; show _ ∧ _ ∧ _; omega
    clear hK0 hB o2 o5 o8 a25 a28 a58 b0 ans rx ry rz bx by_ bz hL
    rw [ex] at q9
    rw [ey] at q10
    simp only [puts, List.take, List.drop, Act.put, List.setIfInBounds_toArray, List.set_cons_succ, List.set_cons_zero, Nat.reduceAdd, ex, ey, ez, q9, q10, k0, k1, k3, k4, k6, k7]
    clear ex ey ez q9 q10 k0 k1 k3 k4 k6 k7
    go_wp2
    go_loopw [19] (fun iv wr => ∃ k, k ≤ n ∧ iv = .int .i64 ((k : Nat) : Int) ∧ Ls w g gx gy gz ts k wr) (fun iv _ => n - (intOf iv).toNat)
    case atStart => exact ⟨0, Nat.zero_le _, rfl, LS⟩
    case round =>
      obtain ⟨k, hk, rfl, ls⟩ := hrel
      by_cases hlt : k < n
      · obtain ⟨t, ht⟩ : ∃ t, ts[k]? = some t := ⟨ts[k]'(by rw [HP.out.1]; exact hlt), List.getElem?_eq_getElem _⟩
        obtain ⟨b, o, hao, e0, e1, e2, e3, e4, e5, e6, e7, e8⟩ := (HI.out wr ls.bel).2.2.2.elem ht
        subst hao
        have HK : Hid (k < ts.length) := by show k < ts.length; rw [HP.out.1]; exact hlt
        have b3 : Below wr.heap.size wr (wr.alloc (.cells #[.bool t.x.s, .slice t.x.no t.x.nn t.x.nc, .slice t.x.eo t.x.en t.x.ec, .bool t.y.s, .slice t.y.no t.y.nn t.y.nc, .slice t.y.eo t.y.en t.y.ec, .bool t.z.s, .slice t.z.no t.z.nn t.z.nc, .slice t.z.eo t.z.en t.z.ec] 26)) := (Below.refl _ _).alloc (Nat.le_refl _) _
        have V7 : Hid (Vb (wr.alloc (.cells #[.bool t.x.s, .slice t.x.no t.x.nn t.x.nc, .slice t.x.eo t.x.en t.x.ec, .bool t.y.s, .slice t.y.no t.y.nn t.y.nc, .slice t.y.eo t.y.en t.y.ec, .bool t.z.s, .slice t.z.no t.z.nn t.z.nc, .slice t.z.eo t.z.en t.z.ec] 26)) wr.heap.size t.x t.y t.z) := Vb.alloc wr t.x t.y t.z
        have X0 : Hid (Rw (wr.alloc (.cells #[.bool t.x.s, .slice t.x.no t.x.nn t.x.nc, .slice t.x.eo t.x.en t.x.ec, .bool t.y.s, .slice t.y.no t.y.nn t.y.nc, .slice t.y.eo t.y.en t.y.ec, .bool t.z.s, .slice t.z.no t.z.nn t.z.nc, .slice t.z.eo t.z.en t.z.ec] 26)) gx (fill (ts.map TP.x) k)) := ls.x.later b3
        have Y0 : Hid (Rw (wr.alloc (.cells #[.bool t.x.s, .slice t.x.no t.x.nn t.x.nc, .slice t.x.eo t.x.en t.x.ec, .bool t.y.s, .slice t.y.no t.y.nn t.y.nc, .slice t.y.eo t.y.en t.y.ec, .bool t.z.s, .slice t.z.no t.z.nn t.z.nc, .slice t.z.eo t.z.en t.z.ec] 26)) gy (fill (ts.map TP.y) k)) := ls.y.later b3
        have Z0 : Hid (Rw (wr.alloc (.cells #[.bool t.x.s, .slice t.x.no t.x.nn t.x.nc, .slice t.x.eo t.x.en t.x.ec, .bool t.y.s, .slice t.y.no t.y.nn t.y.nc, .slice t.y.eo t.y.en t.y.ec, .bool t.z.s, .slice t.z.no t.z.nn t.z.nc, .slice t.z.eo t.z.en t.z.ec] 26)) gz (fill (ts.map TP.z) k)) := ls.z.later b3
        have A0 : Hid (Vb (wr.alloc (.cells #[.bool t.x.s, .slice t.x.no t.x.nn t.x.nc, .slice t.x.eo t.x.en t.x.ec, .bool t.y.s, .slice t.y.no t.y.nn t.y.nc, .slice t.y.eo t.y.en t.y.ec, .bool t.z.s, .slice t.z.no t.z.nn t.z.nc, .slice t.z.eo t.z.en t.z.ec] 26)) g zRP zRP zRP) := ls.ans.later b3
        have B0 : Hid (Below w.heap.size w (wr.alloc (.cells #[.bool t.x.s, .slice t.x.no t.x.nn t.x.nc, .slice t.x.eo t.x.en t.x.ec, .bool t.y.s, .slice t.y.no t.y.nn t.y.nc, .slice t.y.eo t.y.en t.y.ec, .bool t.z.s, .slice t.z.no t.z.nn t.z.nc, .slice t.z.eo t.z.en t.z.ec] 26))) := ls.bel.trans (b3.mono ls.bel.size)
        have HD7 : Hid (wr.heap.size ≠ gx ∧ wr.heap.size ≠ gy ∧ wr.heap.size ≠ gz) := by have := ls.x.lt; have := ls.y.lt; have := ls.z.lt; show _ ∧ _ ∧ _; omega
        have HT : Hid ((ts.map TP.x)[k]? = some t.x ∧ (ts.map TP.y)[k]? = some t.y ∧ (ts.map TP.z)[k]? = some t.z) := ⟨by rw [List.getElem?_map, ht]; rfl, by rw [List.getElem?_map, ht]; rfl, by rw [List.getElem?_map, ht]; rfl⟩
        clear ls b3 ht
        go_wp2
        clear e0 e1 e2 e3 e4 e5 e6 e7 e8
        generalize wr.heap.size = g7 at *
        generalize (wr.alloc (.cells #[.bool t.x.s, .slice t.x.no t.x.nn t.x.nc, .slice t.x.eo t.x.en t.x.ec, .bool t.y.s, .slice t.y.no t.y.nn t.y.nc, .slice t.y.eo t.y.en t.y.ec, .bool t.z.s, .slice t.z.no t.z.nn t.z.nc, .slice t.z.eo t.z.en t.z.ec] 26)) = w3 at *
        refine wp_region_inv 17 47 [([], [3]), ([], [6]), ([], [4]), ([], [6]), ([], [5]), ([], [6]), ([], [7]), ([(6, 30)], []), ([], [7]), ([(8, 32)], []), ([], [7]), ([(10, 34)], []), ([(0, 24), (1, 25)], []), ([(12, 36), (7, 31)], []), ([(2, 26), (3, 27)], []), ([(14, 37), (9, 33)], []), ([(4, 28), (5, 29)], [])]
          (fun L vs u => Know [some (.slice (some ⟨gx, 0, none⟩) n n), some (.int .i64 ((k : Nat) : Int)), some (.slice (some ⟨gy, 0, none⟩) n n), some (.int .i64 ((k : Nat) : Int)), some (.slice (some ⟨gz, 0, none⟩) n n), some (.int .i64 ((k : Nat) : Int)), some (.pointer (some ⟨g7, 0, none⟩)), some (.agg #[.bool t.x.s, .slice t.x.no t.x.nn t.x.nc, .slice t.x.eo t.x.en t.x.ec]), some (.pointer (some ⟨g7, 3, none⟩)), some (.agg #[.bool t.y.s, .slice t.y.no t.y.nn t.y.nc, .slice t.y.eo t.y.en t.y.ec]), some (.pointer (some ⟨g7, 6, none⟩)), some (.agg #[.bool t.z.s, .slice t.z.no t.z.nn t.z.nc, .slice t.z.eo t.z.en t.z.ec]), some (.pointer (some ⟨gx, k * 3, none⟩)), none, some (.pointer (some ⟨gy, k * 3, none⟩)), none, some (.pointer (some ⟨gz, k * 3, none⟩))] L vs ∧ X5 w3 gx gy gz k t (fill (ts.map TP.x) k) (fill (ts.map TP.y) k) (fill (ts.map TP.z) k) (L 13) (L 15) u)
          (by kernel_rfl) rfl (by kernel_rfl) (fun vs => ⟨Know.start _ _, ⟨rfl, rfl, rfl, rfl, fun _ _ _ => rfl, ⟨X0.out.at_⟩, ⟨Y0.out.at_⟩⟩⟩) ?_ ?_
        · refine ⟨fun L vs ρ u hJ hL hc hf hd ho => ?_, fun L vs ρ u hJ hL hc hf hd ho => ?_, fun L vs ρ u hJ hL hc hf hd ho => ?_, fun L vs ρ u hJ hL hc hf hd ho => ?_, fun L vs ρ u hJ hL hc hf hd ho => ?_, fun L vs ρ u hJ hL hc hf hd ho => ?_, fun L vs ρ u hJ hL hc hf hd ho => ?_, fun L vs ρ u hJ hL hc hf hd ho => ?_, fun L vs ρ u hJ hL hc hf hd ho => ?_, fun L vs ρ u hJ hL hc hf hd ho => ?_, fun L vs ρ u hJ hL hc hf hd ho => ?_, fun L vs ρ u hJ hL hc hf hd ho => ?_, fun L vs ρ u hJ hL hc hf hd ho => ?_, fun L vs ρ u hJ hL hc hf hd ho => ?_, fun L vs ρ u hJ hL hc hf hd ho => ?_, fun L vs ρ u hJ hL hc hf hd ho => ?_, fun L vs ρ u hJ hL hc hf hd ho => ?_, trivial⟩
          · obtain ⟨hK, hX⟩ := hJ
            have e3 : ρ (.tmp 3) = .slice (some ⟨gx, 0, none⟩) n n := ho 3 (by simp)
            refine Goes.pure (.slice (some ⟨gx, 0, none⟩) n n) ?_ ⟨hK.pure rfl, hX⟩
            unfold Goes
            go_simp
          · obtain ⟨hK, hX⟩ := hJ
            have e6 : ρ (.tmp 6) = .int .i64 ((k : Nat) : Int) := ho 6 (by simp)
            refine Goes.pure (.int .i64 ((k : Nat) : Int)) ?_ ⟨hK.pure rfl, hX⟩
            unfold Goes
            go_simp
          · obtain ⟨hK, hX⟩ := hJ
            have e4 : ρ (.tmp 4) = .slice (some ⟨gy, 0, none⟩) n n := ho 4 (by simp)
            refine Goes.pure (.slice (some ⟨gy, 0, none⟩) n n) ?_ ⟨hK.pure rfl, hX⟩
            unfold Goes
            go_simp
          · obtain ⟨hK, hX⟩ := hJ
            have e6 : ρ (.tmp 6) = .int .i64 ((k : Nat) : Int) := ho 6 (by simp)
            refine Goes.pure (.int .i64 ((k : Nat) : Int)) ?_ ⟨hK.pure rfl, hX⟩
            unfold Goes
            go_simp
          · obtain ⟨hK, hX⟩ := hJ
            have e5 : ρ (.tmp 5) = .slice (some ⟨gz, 0, none⟩) n n := ho 5 (by simp)
            refine Goes.pure (.slice (some ⟨gz, 0, none⟩) n n) ?_ ⟨hK.pure rfl, hX⟩
            unfold Goes
            go_simp
          · obtain ⟨hK, hX⟩ := hJ
            have e6 : ρ (.tmp 6) = .int .i64 ((k : Nat) : Int) := ho 6 (by simp)
            refine Goes.pure (.int .i64 ((k : Nat) : Int)) ?_ ⟨hK.pure rfl, hX⟩
            unfold Goes
            go_simp
          · obtain ⟨hK, hX⟩ := hJ
            have e7 : ρ (.tmp 7) = .pointer (some ⟨g7, 0, none⟩) := ho 7 (by simp)
            refine Goes.pure (.pointer (some ⟨g7, 0, none⟩)) ?_ ⟨hK.pure rfl, hX⟩
            unfold Goes
            go_simp
          · obtain ⟨hK, hX⟩ := hJ
            have e30 : ρ (.tmp 30) = .pointer (some ⟨g7, 0, none⟩) := (hd (6, 30) (by simp)).2.trans (hK 6 _ rfl (hd (6, 30) (by simp)).1)
            obtain ⟨c0, c1, c2⟩ := ((V7.out).keep (hX.block g7 HD7.out.1 HD7.out.2.1)).c0
            refine Goes.pure (.agg #[.bool t.x.s, .slice t.x.no t.x.nn t.x.nc, .slice t.x.eo t.x.en t.x.ec]) ?_ ⟨hK.pure rfl, hX⟩
            unfold Goes
            go_simp
          · obtain ⟨hK, hX⟩ := hJ
            have e7 : ρ (.tmp 7) = .pointer (some ⟨g7, 0, none⟩) := ho 7 (by simp)
            refine Goes.pure (.pointer (some ⟨g7, 3, none⟩)) ?_ ⟨hK.pure rfl, hX⟩
            unfold Goes
            go_simp
          · obtain ⟨hK, hX⟩ := hJ
            have e32 : ρ (.tmp 32) = .pointer (some ⟨g7, 3, none⟩) := (hd (8, 32) (by simp)).2.trans (hK 8 _ rfl (hd (8, 32) (by simp)).1)
            obtain ⟨c0, c1, c2⟩ := ((V7.out).keep (hX.block g7 HD7.out.1 HD7.out.2.1)).c1
            refine Goes.pure (.agg #[.bool t.y.s, .slice t.y.no t.y.nn t.y.nc, .slice t.y.eo t.y.en t.y.ec]) ?_ ⟨hK.pure rfl, hX⟩
            unfold Goes
            go_simp
          · obtain ⟨hK, hX⟩ := hJ
            have e7 : ρ (.tmp 7) = .pointer (some ⟨g7, 0, none⟩) := ho 7 (by simp)
            refine Goes.pure (.pointer (some ⟨g7, 6, none⟩)) ?_ ⟨hK.pure rfl, hX⟩
            unfold Goes
            go_simp
          · obtain ⟨hK, hX⟩ := hJ
            have e34 : ρ (.tmp 34) = .pointer (some ⟨g7, 6, none⟩) := (hd (10, 34) (by simp)).2.trans (hK 10 _ rfl (hd (10, 34) (by simp)).1)
            obtain ⟨c0, c1, c2⟩ := ((V7.out).keep (hX.block g7 HD7.out.1 HD7.out.2.1)).c2
            refine Goes.pure (.agg #[.bool t.z.s, .slice t.z.no t.z.nn t.z.nc, .slice t.z.eo t.z.en t.z.ec]) ?_ ⟨hK.pure rfl, hX⟩
            unfold Goes
            go_simp
          · obtain ⟨hK, hX⟩ := hJ
            have e24 : ρ (.tmp 24) = .slice (some ⟨gx, 0, none⟩) n n := (hd (0, 24) (by simp)).2.trans (hK 0 _ rfl (hd (0, 24) (by simp)).1)
            have e25 : ρ (.tmp 25) = .int .i64 ((k : Nat) : Int) := (hd (1, 25) (by simp)).2.trans (hK 1 _ rfl (hd (1, 25) (by simp)).1)
            refine Goes.pure (.pointer (some ⟨gx, k * 3, none⟩)) ?_ ⟨hK.pure rfl, hX⟩
            unfold Goes
            go_simp
          · obtain ⟨hK, hX⟩ := hJ
            have e36 : ρ (.tmp 36) = .pointer (some ⟨gx, k * 3, none⟩) := (hd (12, 36) (by simp)).2.trans (hK 12 _ rfl (hd (12, 36) (by simp)).1)
            have e31 : ρ (.tmp 31) = .agg #[.bool t.x.s, .slice t.x.no t.x.nn t.x.nc, .slice t.x.eo t.x.en t.x.ec] := (hd (7, 31) (by simp)).2.trans (hK 7 _ rfl (hd (7, 31) (by simp)).1)
            have hrow : Rw u gx (fill (ts.map TP.x) k) := by have := hX.x; rw [hL] at this; exact this
            obtain ⟨c0, c1, c2⟩ := hrow.there (fill_at (xs := ts.map TP.x) (k := k) (by rw [List.length_map]; exact HK.out))
            have f0 := hrow.free (k * 3)
            have f1 := hrow.free (k * 3 + 1)
            have f2 := hrow.free (k * 3 + 2)
            have hX' := hX
            rw [hL] at hX'
            unfold Goes
            go_simp
            exact ⟨hK.other rfl, hX'.put1 HD.out.1⟩
          · obtain ⟨hK, hX⟩ := hJ
            have e26 : ρ (.tmp 26) = .slice (some ⟨gy, 0, none⟩) n n := (hd (2, 26) (by simp)).2.trans (hK 2 _ rfl (hd (2, 26) (by simp)).1)
            have e27 : ρ (.tmp 27) = .int .i64 ((k : Nat) : Int) := (hd (3, 27) (by simp)).2.trans (hK 3 _ rfl (hd (3, 27) (by simp)).1)
            refine Goes.pure (.pointer (some ⟨gy, k * 3, none⟩)) ?_ ⟨hK.pure rfl, hX⟩
            unfold Goes
            go_simp
          · obtain ⟨hK, hX⟩ := hJ
            have e37 : ρ (.tmp 37) = .pointer (some ⟨gy, k * 3, none⟩) := (hd (14, 37) (by simp)).2.trans (hK 14 _ rfl (hd (14, 37) (by simp)).1)
            have e33 : ρ (.tmp 33) = .agg #[.bool t.y.s, .slice t.y.no t.y.nn t.y.nc, .slice t.y.eo t.y.en t.y.ec] := (hd (9, 33) (by simp)).2.trans (hK 9 _ rfl (hd (9, 33) (by simp)).1)
            have hrow : Rw u gy (fill (ts.map TP.y) k) := by have := hX.y; rw [hL] at this; exact this
            obtain ⟨c0, c1, c2⟩ := hrow.there (fill_at (xs := ts.map TP.y) (k := k) (by rw [List.length_map]; exact HK.out))
            have f0 := hrow.free (k * 3)
            have f1 := hrow.free (k * 3 + 1)
            have f2 := hrow.free (k * 3 + 2)
            have hX' := hX
            rw [hL] at hX'
            unfold Goes
            go_simp
            exact ⟨hK.other rfl, hX'.put2 HD.out.1⟩
          · obtain ⟨hK, hX⟩ := hJ
            have e28 : ρ (.tmp 28) = .slice (some ⟨gz, 0, none⟩) n n := (hd (4, 28) (by simp)).2.trans (hK 4 _ rfl (hd (4, 28) (by simp)).1)
            have e29 : ρ (.tmp 29) = .int .i64 ((k : Nat) : Int) := (hd (5, 29) (by simp)).2.trans (hK 5 _ rfl (hd (5, 29) (by simp)).1)
            refine Goes.pure (.pointer (some ⟨gz, k * 3, none⟩)) ?_ ⟨hK.pure rfl, hX⟩
            unfold Goes
            go_simp
        · intro L vs u hL hJ
          obtain ⟨hK0, hX⟩ := hJ
          have k0 : vs 0 = .slice (some ⟨gx, 0, none⟩) n n := hK0 0 _ rfl (hL 0 (by omega))
          have k1 : vs 1 = .int .i64 ((k : Nat) : Int) := hK0 1 _ rfl (hL 1 (by omega))
          have k2 : vs 2 = .slice (some ⟨gy, 0, none⟩) n n := hK0 2 _ rfl (hL 2 (by omega))
          have k3 : vs 3 = .int .i64 ((k : Nat) : Int) := hK0 3 _ rfl (hL 3 (by omega))
          have k4 : vs 4 = .slice (some ⟨gz, 0, none⟩) n n := hK0 4 _ rfl (hL 4 (by omega))
          have k5 : vs 5 = .int .i64 ((k : Nat) : Int) := hK0 5 _ rfl (hL 5 (by omega))
          have k6 : vs 6 = .pointer (some ⟨g7, 0, none⟩) := hK0 6 _ rfl (hL 6 (by omega))
          have k7 : vs 7 = .agg #[.bool t.x.s, .slice t.x.no t.x.nn t.x.nc, .slice t.x.eo t.x.en t.x.ec] := hK0 7 _ rfl (hL 7 (by omega))
          have k8 : vs 8 = .pointer (some ⟨g7, 3, none⟩) := hK0 8 _ rfl (hL 8 (by omega))
          have k9 : vs 9 = .agg #[.bool t.y.s, .slice t.y.no t.y.nn t.y.nc, .slice t.y.eo t.y.en t.y.ec] := hK0 9 _ rfl (hL 9 (by omega))
          have k10 : vs 10 = .pointer (some ⟨g7, 6, none⟩) := hK0 10 _ rfl (hL 10 (by omega))
          have k11 : vs 11 = .agg #[.bool t.z.s, .slice t.z.no t.z.nn t.z.nc, .slice t.z.eo t.z.en t.z.ec] := hK0 11 _ rfl (hL 11 (by omega))
          have k12 : vs 12 = .pointer (some ⟨gx, k * 3, none⟩) := hK0 12 _ rfl (hL 12 (by omega))
          have k14 : vs 14 = .pointer (some ⟨gy, k * 3, none⟩) := hK0 14 _ rfl (hL 14 (by omega))
          have k16 : vs 16 = .pointer (some ⟨gz, k * 3, none⟩) := hK0 16 _ rfl (hL 16 (by omega))
          have hX' := hX
          rw [hL 13 (by omega), hL 15 (by omega)] at hX'
          have bX := hX'.below HE.out.1 HE.out.2.1
          have hz : Rw u gz (fill (ts.map TP.z) k) := Z0.out.keep (hX'.block gz (Ne.symm HD.out.2.1) (Ne.symm HD.out.2.2))
          have ha : Vb u g zRP zRP zRP := A0.out.keep (hX'.block g HA.out.1 HA.out.2.1)
          obtain ⟨c0, c1, c2⟩ := hz.there (fill_at (xs := ts.map TP.z) (k := k) (by rw [List.length_map]; exact HK.out))
          have f0 := hz.free (k * 3)
          have f1 := hz.free (k * 3 + 1)
          have f2 := hz.free (k * 3 + 2)
          have fr := putR.fr u gz (k * 3) t.z
          have LS' : Hid (Ls w g gx gy gz ts (k + 1) (putR u gz (k * 3) t.z)) := ⟨(B0.out.trans bX).trans (fr.below HE.out.2.2), ha.keep (fr.block g HA.out.2.2), by rw [← fill_set HT.out.1]; exact hX'.x.keep (fr.block gx HD.out.2.1), by rw [← fill_set HT.out.2.1]; exact hX'.y.keep (fr.block gy HD.out.2.2), by rw [← fill_set HT.out.2.2]; exact hz.put k t.z⟩
          clear hK0 hX hX' hL bX
          simp only [puts, List.take, List.drop, Act.put, List.setIfInBounds_toArray, List.set_cons_succ, List.set_cons_zero, Nat.reduceAdd, k0, k1, k2, k3, k4, k5, k6, k7, k8, k9, k10, k11, k12, k14, k16]
          clear k0 k1 k2 k3 k4 k5 k6 k7 k8 k9 k10 k11 k12 k14 k16
          go_wp2
          go_roundw
          case rel => exact ⟨k + 1, by omega, by go_num, LS'.out⟩
          case measure => simp [intOf]; omega
      · obtain rfl : k = n := by omega
        have B := ls.bel
        have hans := ls.ans
        have rx := ls.x
        have ry := ls.y
        have rz := ls.z
        have E : Hid (fill (ts.map TP.x) k = ts.map TP.x ∧ fill (ts.map TP.y) k = ts.map TP.y ∧ fill (ts.map TP.z) k = ts.map TP.z) := by
          refine ⟨?_, ?_, ?_⟩ <;> (rw [← HP.out.1]; exact (congrArg _ (List.length_map ..).symm).trans (fill_all _))
        rw [E.out.1] at rx
        rw [E.out.2.1] at ry
        rw [E.out.2.2] at rz
        clear ls
        go_wp2_with fail
        refine (ratSum_k (qs := ps) ((HI.out _ B).1 |> fun q => rx.list q k (by rw [List.length_map]; exact HP.out.1)) hK1 (by rw [HP.out.2.1]; exact hK) (by rw [HP.out.2.1]; exact h3)).mono ?_
        rintro e w4 ⟨s0, no0, nn0, nc0, eo0, en0, ec0, rfl, cq0, lb⟩
        rw [HP.out.2.1] at cq0
        replace B := B.trans (lb.mono B.size)
        replace hans := hans.later lb
        replace rx := rx.later lb
        replace ry := ry.later lb
        replace rz := rz.later lb
        clear lb
        go_wp2_with fail
        refine (ratSum_k (qs := qs) ((HI.out _ B).2.1 |> fun q => ry.list q k (by rw [List.length_map]; exact HP.out.1)) hK1 (by rw [HP.out.2.2.1]; exact hK) (by rw [HP.out.2.2.1]; exact h3)).mono ?_
        rintro e w5 ⟨s1, no1, nn1, nc1, eo1, en1, ec1, rfl, cq1, lb⟩
        rw [HP.out.2.2.1] at cq1
        replace B := B.trans (lb.mono B.size)
        replace hans := hans.later lb
        replace rx := rx.later lb
        replace ry := ry.later lb
        replace rz := rz.later lb
        replace cq0 := cq0.later lb
        clear lb
        go_wp2_with fail
        refine (ratSum_k (qs := rs) ((HI.out _ B).2.2.1 |> fun q => rz.list q k (by rw [List.length_map]; exact HP.out.1)) hK1 (by rw [HP.out.2.2.2]; exact hK) (by rw [HP.out.2.2.2]; exact h3)).mono ?_
        rintro e w6 ⟨s2, no2, nn2, nc2, eo2, en2, ec2, rfl, cq2, lb⟩
        rw [HP.out.2.2.2] at cq2
        replace B := B.trans (lb.mono B.size)
        replace hans := hans.later lb
        replace rx := rx.later lb
        replace ry := ry.later lb
        replace rz := rz.later lb
        replace cq0 := cq0.later lb
        replace cq1 := cq1.later lb
        clear lb
        obtain ⟨c0, c1, c2⟩ := hans.c0
        obtain ⟨c3, c4, c5⟩ := hans.c1
        obtain ⟨c6, c7, c8⟩ := hans.c2
        have f0 := hans.free 0
        have f1 := hans.free 1
        have f2 := hans.free 2
        have f3 := hans.free 3
        have f4 := hans.free 4
        have f5 := hans.free 5
        have f6 := hans.free 6
        have f7 := hans.free 7
        have f8 := hans.free 8
        go_wp2
        exact ret_storeV (x := ⟨s0, no0, nn0, nc0, eo0, en0, ec0⟩) (y := ⟨s1, no1, nn1, nc1, eo1, en1, ec1⟩) (z := ⟨s2, no2, nn2, nc2, eo2, en2, ec2⟩) rfl rfl rfl hans HG.out ⟨cq0, cq1, cq2⟩ B
end Go.Proofs.Ytmbemidacilakaa

/- penumbralaw05.fixed: true. -/
namespace Go.Proofs.Ytmbemidacilakaa
open Go.RowKit M Kahn
set_option maxRecDepth 100000

theorem bx_VR (w : World) (a0 b0 c0 a1 : RP) : ∃ w0, w0 = ((w.alloc (.cells #[.bool a0.s, .slice a0.no a0.nn a0.nc, .slice a0.eo a0.en a0.ec, .bool b0.s, .slice b0.no b0.nn b0.nc, .slice b0.eo b0.en b0.ec, .bool c0.s, .slice c0.no c0.nn c0.nc, .slice c0.eo c0.en c0.ec] 26)).alloc (.cells #[.bool a1.s, .slice a1.no a1.nn a1.nc, .slice a1.eo a1.en a1.ec] 24)) ∧ Vb w0 w.heap.size a0 b0 c0 ∧ Rb w0 (w.heap.size + 1) (.bool a1.s) (.slice a1.no a1.nn a1.nc) (.slice a1.eo a1.en a1.ec) ∧ Below w.heap.size w w0 := by
  obtain ⟨w1, h1⟩ : ∃ w1, w1 = w.alloc (.cells #[.bool a0.s, .slice a0.no a0.nn a0.nc, .slice a0.eo a0.en a0.ec, .bool b0.s, .slice b0.no b0.nn b0.nc, .slice b0.eo b0.en b0.ec, .bool c0.s, .slice c0.no c0.nn c0.nc, .slice c0.eo c0.en c0.ec] 26) := ⟨_, rfl⟩
  have l1 : Below w.heap.size w w1 := by rw [h1]; exact (Below.refl _ _).alloc (Nat.le_refl _) _
  have z1 : w1.heap.size = w.heap.size + 1 := by rw [h1]; simp
  have r1 : Vb w1 w.heap.size a0 b0 c0 := by rw [h1]; exact ⟨heap_alloc_new _ _⟩
  obtain ⟨w2, h2⟩ : ∃ w2, w2 = w1.alloc (.cells #[.bool a1.s, .slice a1.no a1.nn a1.nc, .slice a1.eo a1.en a1.ec] 24) := ⟨_, rfl⟩
  have l2 : Below w1.heap.size w1 w2 := by rw [h2]; exact (Below.refl _ _).alloc (Nat.le_refl _) _
  have z2 : w2.heap.size = w1.heap.size + 1 := by rw [h2]; simp
  have r2 : Rb w2 w1.heap.size (.bool a1.s) (.slice a1.no a1.nn a1.nc) (.slice a1.eo a1.en a1.ec) := by rw [h2]; exact ⟨heap_alloc_new _ _⟩
  replace r1 := r1.later l2
  have b1 := l1
  have b2 := b1.trans (l2.mono b1.size)
  rw [show w1.heap.size = w.heap.size + 1 from by omega] at r2
  exact ⟨w2, by rw [h2, h1], r1, r2, b2⟩
set_option maxHeartbeats 16000000 in
theorem fixed5_any (w0 : World) : Calls Try.prog 8 #[] w0 fun e w' => e = .returned (.bool true) ∧ Below w0.heap.size w0 w' := by
  go_enter Try.func8, Try.ntmps8
  have B0 : Below w0.heap.size w0 w0 := Below.refl _ _
  go_wp2_with fail
  refine (vof_k (w := w0) (x := 3) (y := 0) (z := -4) (by omega) (by omega) (by omega) (by omega) (by omega) (by omega)).mono ?_
  rintro e w1 ⟨pa1, pb1, pc1, rfl, cp1, lb⟩
  have B1 := B0.trans (lb.mono B0.size)
  clear B0 lb
  go_wp2_with fail
  refine (vunit_k cp1.rd (by omega) (by omega)).mono ?_
  rintro e w2 ⟨ua1, ub1, uc1, ud1, rfl, cu1, cl1, lb⟩
  replace cp1 := cp1.later lb
  have B2 := B1.trans (lb.mono B1.size)
  clear B1 lb
  rw [show uok ((((3 : Int) : Rat) / ((1 : Int) : Rat)) * (((3 : Int) : Rat) / ((1 : Int) : Rat)) + (((0 : Int) : Rat) / ((1 : Int) : Rat)) * (((0 : Int) : Rat) / ((1 : Int) : Rat)) + (((-4 : Int) : Rat) / ((1 : Int) : Rat)) * (((-4 : Int) : Rat) / ((1 : Int) : Rat))) = true from by decide +kernel]
  rw [show uv ((((3 : Int) : Rat) / ((1 : Int) : Rat)) * (((3 : Int) : Rat) / ((1 : Int) : Rat)) + (((0 : Int) : Rat) / ((1 : Int) : Rat)) * (((0 : Int) : Rat) / ((1 : Int) : Rat)) + (((-4 : Int) : Rat) / ((1 : Int) : Rat)) * (((-4 : Int) : Rat) / ((1 : Int) : Rat))) (((3 : Int) : Rat) / ((1 : Int) : Rat)) = 3 / 5 from by decide +kernel, show uv ((((3 : Int) : Rat) / ((1 : Int) : Rat)) * (((3 : Int) : Rat) / ((1 : Int) : Rat)) + (((0 : Int) : Rat) / ((1 : Int) : Rat)) * (((0 : Int) : Rat) / ((1 : Int) : Rat)) + (((-4 : Int) : Rat) / ((1 : Int) : Rat)) * (((-4 : Int) : Rat) / ((1 : Int) : Rat))) (((0 : Int) : Rat) / ((1 : Int) : Rat)) = 0 from by decide +kernel, show uv ((((3 : Int) : Rat) / ((1 : Int) : Rat)) * (((3 : Int) : Rat) / ((1 : Int) : Rat)) + (((0 : Int) : Rat) / ((1 : Int) : Rat)) * (((0 : Int) : Rat) / ((1 : Int) : Rat)) + (((-4 : Int) : Rat) / ((1 : Int) : Rat)) * (((-4 : Int) : Rat) / ((1 : Int) : Rat))) (((-4 : Int) : Rat) / ((1 : Int) : Rat)) = -4 / 5 from by decide +kernel] at cu1
  rw [show ul ((((3 : Int) : Rat) / ((1 : Int) : Rat)) * (((3 : Int) : Rat) / ((1 : Int) : Rat)) + (((0 : Int) : Rat) / ((1 : Int) : Rat)) * (((0 : Int) : Rat) / ((1 : Int) : Rat)) + (((-4 : Int) : Rat) / ((1 : Int) : Rat)) * (((-4 : Int) : Rat) / ((1 : Int) : Rat))) = 5 from by decide +kernel] at cl1
  clear cp1
  obtain ⟨w3, hw, x1, y1, lb⟩ := bx_VR w2 ua1 ub1 uc1 ud1
  obtain ⟨g1, hg1⟩ : ∃ g1, g1 = w2.heap.size := ⟨_, rfl⟩
  rw [← hg1] at x1
  obtain ⟨h1, hh1⟩ : ∃ h1, h1 = w2.heap.size + 1 := ⟨_, rfl⟩
  rw [← hh1] at y1
  replace cu1 := cu1.later lb
  replace cl1 := cl1.later lb
  have B3 := B2.trans (lb.mono B2.size)
  clear B2 lb
  go_wp2_with fail
  rw [← hw, ← hh1, ← hg1]
  clear hw hg1 hh1
  refine (vof_k (w := w3) (x := 1) (y := 1) (z := 0) (by omega) (by omega) (by omega) (by omega) (by omega) (by omega)).mono ?_
  rintro e w4 ⟨pa2, pb2, pc2, rfl, cp2, lb⟩
  replace cu1 := cu1.later lb
  replace cl1 := cl1.later lb
  replace x1 := x1.later lb
  replace y1 := y1.later lb
  have B4 := B3.trans (lb.mono B3.size)
  clear B3 lb
  go_wp2_with fail
  refine (vunit_k cp2.rd (by omega) (by omega)).mono ?_
  rintro e w5 ⟨ua2, ub2, uc2, ud2, rfl, cu2, cl2, lb⟩
  replace cu1 := cu1.later lb
  replace cl1 := cl1.later lb
  replace x1 := x1.later lb
  replace y1 := y1.later lb
  replace cp2 := cp2.later lb
  have B5 := B4.trans (lb.mono B4.size)
  clear B4 lb
  rw [show uok ((((1 : Int) : Rat) / ((1 : Int) : Rat)) * (((1 : Int) : Rat) / ((1 : Int) : Rat)) + (((1 : Int) : Rat) / ((1 : Int) : Rat)) * (((1 : Int) : Rat) / ((1 : Int) : Rat)) + (((0 : Int) : Rat) / ((1 : Int) : Rat)) * (((0 : Int) : Rat) / ((1 : Int) : Rat))) = false from by decide +kernel]
  clear cp2
  obtain ⟨w6, hw, x2, y2, lb⟩ := bx_VR w5 ua2 ub2 uc2 ud2
  obtain ⟨g2, hg2⟩ : ∃ g2, g2 = w5.heap.size := ⟨_, rfl⟩
  rw [← hg2] at x2
  obtain ⟨h2, hh2⟩ : ∃ h2, h2 = w5.heap.size + 1 := ⟨_, rfl⟩
  rw [← hh2] at y2
  replace cu1 := cu1.later lb
  replace cl1 := cl1.later lb
  replace x1 := x1.later lb
  replace y1 := y1.later lb
  replace cu2 := cu2.later lb
  replace cl2 := cl2.later lb
  have B6 := B5.trans (lb.mono B5.size)
  clear B5 lb
  go_wp2
  rw [← hw, ← hh2, ← hg2]
  clear hw hg2 hh2
  clear x2 y2 cu2 cl2
  have HLst : Lst [VG (((1 : Int) : Rat) / ((1 : Int) : Rat)) (((0 : Int) : Rat) / ((1 : Int) : Rat)) (((0 : Int) : Rat) / ((1 : Int) : Rat)) (2), VG (((0 : Int) : Rat) / ((1 : Int) : Rat)) (((1 : Int) : Rat) / ((1 : Int) : Rat)) (((0 : Int) : Rat) / ((1 : Int) : Rat)) (2), VG ((((0 : Int) : Rat) / ((1 : Int) : Rat)) * (((0 : Int) : Rat) / ((1 : Int) : Rat)) - (((0 : Int) : Rat) / ((1 : Int) : Rat)) * (((1 : Int) : Rat) / ((1 : Int) : Rat))) ((((0 : Int) : Rat) / ((1 : Int) : Rat)) * (((0 : Int) : Rat) / ((1 : Int) : Rat)) - (((1 : Int) : Rat) / ((1 : Int) : Rat)) * (((0 : Int) : Rat) / ((1 : Int) : Rat))) ((((1 : Int) : Rat) / ((1 : Int) : Rat)) * (((1 : Int) : Rat) / ((1 : Int) : Rat)) - (((0 : Int) : Rat) / ((1 : Int) : Rat)) * (((0 : Int) : Rat) / ((1 : Int) : Rat))) (2 + (2) + (2 + (2)) + 1), VG (((0 : Int) : Rat) / ((1 : Int) : Rat)) (((0 : Int) : Rat) / ((1 : Int) : Rat)) (((1 : Int) : Rat) / ((1 : Int) : Rat)) (2), VV (.bool true), VV (.bool true), VV (.bool true), VV (.bool true), VV (.bool true), VV (.agg #[.bool ud1.s, .slice ud1.no ud1.nn ud1.nc, .slice ud1.eo ud1.en ud1.ec]), VC ((((5 : Int) : Rat) / ((1 : Int) : Rat))) (2), VV (.bool true), VV (.bool true), VV (.bool true), VV (.pointer (some ⟨g1, 0, none⟩)), VV (.agg #[.bool ua1.s, .slice ua1.no ua1.nn ua1.nc, .slice ua1.eo ua1.en ua1.ec]), VC ((((3 : Int) : Rat) / ((5 : Int) : Rat))) (2), VV (.bool true), VV (.bool true), VV (.bool true), VV (.pointer (some ⟨g1, 6, none⟩)), VV (.agg #[.bool uc1.s, .slice uc1.no uc1.nn uc1.nc, .slice uc1.eo uc1.en uc1.ec]), VC (((((-4) : Int) : Rat) / ((5 : Int) : Rat))) (2), VV (.bool true), VV (.bool true), VV (.bool true), VV (.bool false), VV (.bool true), VV (.bool true), VV (.bool true), VG (qsum []) (qsum []) (qsum []) (1), VG (0) (0) (0) (1), VV (.bool true), VV (.bool true)] := ⟨VG.lasts _ _ _ _, VG.lasts _ _ _ _, VG.lasts _ _ _ _, VG.lasts _ _ _ _, VV.lasts _, VV.lasts _, VV.lasts _, VV.lasts _, VV.lasts _, VV.lasts _, VC.lasts _ _, VV.lasts _, VV.lasts _, VV.lasts _, VV.lasts _, VV.lasts _, VC.lasts _ _, VV.lasts _, VV.lasts _, VV.lasts _, VV.lasts _, VV.lasts _, VC.lasts _ _, VV.lasts _, VV.lasts _, VV.lasts _, VV.lasts _, VV.lasts _, VV.lasts _, VV.lasts _, VG.lasts _ _ _ _, VG.lasts _ _ _ _, VV.lasts _, VV.lasts _, trivial⟩
  refine wp_region_kahn 34 53 [([], []), ([], []), ([(0, 19), (1, 20)], []), ([], []), ([(2, 21), (3, 22)], []), ([(4, 23)], []), ([], [3]), ([(5, 24), (6, 25)], []), ([(7, 26)], []), ([], [2]), ([], []), ([(9, 28), (10, 29)], []), ([(8, 27), (11, 30)], []), ([(12, 31)], []), ([], [1]), ([(14, 33)], []), ([], []), ([(15, 34), (16, 35)], []), ([(13, 32), (17, 36)], []), ([(18, 37)], []), ([], [1]), ([(20, 39)], []), ([], []), ([(21, 40), (22, 41)], []), ([(19, 38), (23, 42)], []), ([(24, 43)], []), ([], [6]), ([(26, 45)], []), ([(25, 44), (27, 46)], []), ([(28, 47)], []), ([], []), ([], []), ([(30, 49), (31, 50)], []), ([(29, 48), (32, 51)], [])]
    (fun u => Below w6.heap.size w6 u) (fun u u' => Below u.heap.size u u')
    (Sp [VG (((1 : Int) : Rat) / ((1 : Int) : Rat)) (((0 : Int) : Rat) / ((1 : Int) : Rat)) (((0 : Int) : Rat) / ((1 : Int) : Rat)) (2), VG (((0 : Int) : Rat) / ((1 : Int) : Rat)) (((1 : Int) : Rat) / ((1 : Int) : Rat)) (((0 : Int) : Rat) / ((1 : Int) : Rat)) (2), VG ((((0 : Int) : Rat) / ((1 : Int) : Rat)) * (((0 : Int) : Rat) / ((1 : Int) : Rat)) - (((0 : Int) : Rat) / ((1 : Int) : Rat)) * (((1 : Int) : Rat) / ((1 : Int) : Rat))) ((((0 : Int) : Rat) / ((1 : Int) : Rat)) * (((0 : Int) : Rat) / ((1 : Int) : Rat)) - (((1 : Int) : Rat) / ((1 : Int) : Rat)) * (((0 : Int) : Rat) / ((1 : Int) : Rat))) ((((1 : Int) : Rat) / ((1 : Int) : Rat)) * (((1 : Int) : Rat) / ((1 : Int) : Rat)) - (((0 : Int) : Rat) / ((1 : Int) : Rat)) * (((0 : Int) : Rat) / ((1 : Int) : Rat))) (2 + (2) + (2 + (2)) + 1), VG (((0 : Int) : Rat) / ((1 : Int) : Rat)) (((0 : Int) : Rat) / ((1 : Int) : Rat)) (((1 : Int) : Rat) / ((1 : Int) : Rat)) (2), VV (.bool true), VV (.bool true), VV (.bool true), VV (.bool true), VV (.bool true), VV (.agg #[.bool ud1.s, .slice ud1.no ud1.nn ud1.nc, .slice ud1.eo ud1.en ud1.ec]), VC ((((5 : Int) : Rat) / ((1 : Int) : Rat))) (2), VV (.bool true), VV (.bool true), VV (.bool true), VV (.pointer (some ⟨g1, 0, none⟩)), VV (.agg #[.bool ua1.s, .slice ua1.no ua1.nn ua1.nc, .slice ua1.eo ua1.en ua1.ec]), VC ((((3 : Int) : Rat) / ((5 : Int) : Rat))) (2), VV (.bool true), VV (.bool true), VV (.bool true), VV (.pointer (some ⟨g1, 6, none⟩)), VV (.agg #[.bool uc1.s, .slice uc1.no uc1.nn uc1.nc, .slice uc1.eo uc1.en uc1.ec]), VC (((((-4) : Int) : Rat) / ((5 : Int) : Rat))) (2), VV (.bool true), VV (.bool true), VV (.bool true), VV (.bool false), VV (.bool true), VV (.bool true), VV (.bool true), VG (qsum []) (qsum []) (qsum []) (1), VG (0) (0) (0) (1), VV (.bool true), VV (.bool true)])
    (by kernel_rfl) rfl (by kernel_rfl) (Below.refl _ _).drew (fun k v u u' _ hg hs => Sp.lasts HLst k v u u' hg hs) ?_ ?_
  · clear HLst
    refine ⟨.inl ⟨by simp, fun ρ u hC hc hf hd ho => ?_⟩, .inl ⟨by simp, fun ρ u hC hc hf hd ho => ?_⟩, .inl ⟨by simp, fun ρ u hC hc hf hd ho => ?_⟩, .inl ⟨by simp, fun ρ u hC hc hf hd ho => ?_⟩, .inl ⟨by simp, fun ρ u hC hc hf hd ho => ?_⟩, .inl ⟨by simp, fun ρ u hC hc hf hd ho => ?_⟩, .inl ⟨guard_of rfl fun _ _ h => h, fun ρ u hC hc hf hd ho => ?_⟩, .inl ⟨by simp, fun ρ u hC hc hf hd ho => ?_⟩, .inl ⟨by simp, fun ρ u hC hc hf hd ho => ?_⟩, .inl ⟨guard_of rfl fun _ _ h => h, fun ρ u hC hc hf hd ho => ?_⟩, .inl ⟨guard_of rfl fun _ _ h => h, fun ρ u hC hc hf hd ho => ?_⟩, .inl ⟨guard_of rfl fun _ _ h => h, fun ρ u hC hc hf hd ho => ?_⟩, .inl ⟨by simp, fun ρ u hC hc hf hd ho => ?_⟩, .inl ⟨by simp, fun ρ u hC hc hf hd ho => ?_⟩, .inl ⟨guard_of rfl fun _ _ h => h, fun ρ u hC hc hf hd ho => ?_⟩, .inl ⟨guard_of rfl fun _ _ h => h, fun ρ u hC hc hf hd ho => ?_⟩, .inl ⟨guard_of rfl fun _ _ h => h, fun ρ u hC hc hf hd ho => ?_⟩, .inl ⟨guard_of rfl fun _ _ h => h, fun ρ u hC hc hf hd ho => ?_⟩, .inl ⟨by simp, fun ρ u hC hc hf hd ho => ?_⟩, .inl ⟨by simp, fun ρ u hC hc hf hd ho => ?_⟩, .inl ⟨guard_of rfl fun _ _ h => h, fun ρ u hC hc hf hd ho => ?_⟩, .inl ⟨guard_of rfl fun _ _ h => h, fun ρ u hC hc hf hd ho => ?_⟩, .inl ⟨guard_of rfl fun _ _ h => h, fun ρ u hC hc hf hd ho => ?_⟩, .inl ⟨guard_of rfl fun _ _ h => h, fun ρ u hC hc hf hd ho => ?_⟩, .inl ⟨by simp, fun ρ u hC hc hf hd ho => ?_⟩, .inl ⟨by simp, fun ρ u hC hc hf hd ho => ?_⟩, .inl ⟨guard_of rfl fun _ _ h => h, fun ρ u hC hc hf hd ho => ?_⟩, .inl ⟨guard_of rfl fun _ _ h => h, fun ρ u hC hc hf hd ho => ?_⟩, .inl ⟨by simp, fun ρ u hC hc hf hd ho => ?_⟩, .inl ⟨by simp, fun ρ u hC hc hf hd ho => ?_⟩, .inl ⟨guard_of rfl fun _ _ h => h, fun ρ u hC hc hf hd ho => ?_⟩, .inl ⟨guard_of rfl fun _ _ h => h, fun ρ u hC hc hf hd ho => ?_⟩, .inl ⟨guard_of rfl fun _ _ h => h, fun ρ u hC hc hf hd ho => ?_⟩, .inl ⟨by simp, fun ρ u hC hc hf hd ho => ?_⟩, trivial⟩
    · refine Goes.call 33 #[.int .i64 1, .int .i64 0, .int .i64 0] (by go_simp) ?_
      refine Calls.mono (vof_k (w := u) (x := 1) (y := 0) (z := 0) (by omega) (by omega) (by omega) (by omega) (by omega) (by omega)) ?_
      rintro e u' ⟨ra, rb, rc, rfl, cv, lb⟩
      exact ⟨_, rfl, hC.trans (lb.mono hC.size), lb, ⟨ra, rb, rc, rfl, cv⟩⟩
    · refine Goes.call 33 #[.int .i64 0, .int .i64 1, .int .i64 0] (by go_simp) ?_
      refine Calls.mono (vof_k (w := u) (x := 0) (y := 1) (z := 0) (by omega) (by omega) (by omega) (by omega) (by omega) (by omega)) ?_
      rintro e u' ⟨ra, rb, rc, rfl, cv, lb⟩
      exact ⟨_, rfl, hC.trans (lb.mono hC.size), lb, ⟨ra, rb, rc, rfl, cv⟩⟩
    · obtain ⟨ra19, rb19, rc19, e19, k19⟩ : VG (((1 : Int) : Rat) / ((1 : Int) : Rat)) (((0 : Int) : Rat) / ((1 : Int) : Rat)) (((0 : Int) : Rat) / ((1 : Int) : Rat)) (2) (ρ (.tmp 19)) u := hd (0, 19) (by simp)
      obtain ⟨ra20, rb20, rc20, e20, k20⟩ : VG (((0 : Int) : Rat) / ((1 : Int) : Rat)) (((1 : Int) : Rat) / ((1 : Int) : Rat)) (((0 : Int) : Rat) / ((1 : Int) : Rat)) (2) (ρ (.tmp 20)) u := hd (1, 20) (by simp)
      refine Goes.call 19 #[.agg #[.bool ra19.s, .slice ra19.no ra19.nn ra19.nc, .slice ra19.eo ra19.en ra19.ec, .bool rb19.s, .slice rb19.no rb19.nn rb19.nc, .slice rb19.eo rb19.en rb19.ec, .bool rc19.s, .slice rc19.no rc19.nn rc19.nc, .slice rc19.eo rc19.en rc19.ec], .agg #[.bool ra20.s, .slice ra20.no ra20.nn ra20.nc, .slice ra20.eo ra20.en ra20.ec, .bool rb20.s, .slice rb20.no rb20.nn rb20.nc, .slice rb20.eo rb20.en rb20.ec, .bool rc20.s, .slice rc20.no rc20.nn rc20.nc, .slice rc20.eo rc20.en rc20.ec]] (by go_simp) ?_
      refine Calls.mono (vcross_k (k19.rd) (k20.rd) (by omega) (by omega) (by omega)) ?_
      rintro e u' ⟨ra, rb, rc, rfl, cv, lb⟩
      exact ⟨_, rfl, hC.trans (lb.mono hC.size), lb, ⟨ra, rb, rc, rfl, cv⟩⟩
    · refine Goes.call 34 #[.int .i64 0, .int .i64 0, .int .i64 1] (by go_simp) ?_
      refine Calls.mono (vof5 (w := u) (x := 0) (y := 0) (z := 1) (by omega) (by omega) (by omega) (by omega) (by omega) (by omega)) ?_
      rintro e u' ⟨ra, rb, rc, rfl, cv, lb⟩
      exact ⟨_, rfl, hC.trans (lb.mono hC.size), lb, ⟨ra, rb, rc, rfl, cv⟩⟩
    · obtain ⟨ra21, rb21, rc21, e21, k21⟩ : VG ((((0 : Int) : Rat) / ((1 : Int) : Rat)) * (((0 : Int) : Rat) / ((1 : Int) : Rat)) - (((0 : Int) : Rat) / ((1 : Int) : Rat)) * (((1 : Int) : Rat) / ((1 : Int) : Rat))) ((((0 : Int) : Rat) / ((1 : Int) : Rat)) * (((0 : Int) : Rat) / ((1 : Int) : Rat)) - (((1 : Int) : Rat) / ((1 : Int) : Rat)) * (((0 : Int) : Rat) / ((1 : Int) : Rat))) ((((1 : Int) : Rat) / ((1 : Int) : Rat)) * (((1 : Int) : Rat) / ((1 : Int) : Rat)) - (((0 : Int) : Rat) / ((1 : Int) : Rat)) * (((0 : Int) : Rat) / ((1 : Int) : Rat))) (2 + (2) + (2 + (2)) + 1) (ρ (.tmp 21)) u := hd (2, 21) (by simp)
      obtain ⟨ra22, rb22, rc22, e22, k22⟩ : VG (((0 : Int) : Rat) / ((1 : Int) : Rat)) (((0 : Int) : Rat) / ((1 : Int) : Rat)) (((1 : Int) : Rat) / ((1 : Int) : Rat)) (2) (ρ (.tmp 22)) u := hd (3, 22) (by simp)
      refine Goes.call 9 #[.agg #[.bool ra21.s, .slice ra21.no ra21.nn ra21.nc, .slice ra21.eo ra21.en ra21.ec, .bool rb21.s, .slice rb21.no rb21.nn rb21.nc, .slice rb21.eo rb21.en rb21.ec, .bool rc21.s, .slice rc21.no rc21.nn rc21.nc, .slice rc21.eo rc21.en rc21.ec], .agg #[.bool ra22.s, .slice ra22.no ra22.nn ra22.nc, .slice ra22.eo ra22.en ra22.ec, .bool rb22.s, .slice rb22.no rb22.nn rb22.nc, .slice rb22.eo rb22.en rb22.ec, .bool rc22.s, .slice rc22.no rc22.nn rc22.nc, .slice rc22.eo rc22.en rc22.ec]] (by go_simp) ?_
      refine Calls.mono (vis5 (k21) (k22) (by omega) (by omega)) ?_
      rintro e u' ⟨r, rfl, HR, lb⟩
      exact ⟨_, rfl, hC.trans (lb.mono hC.size), lb, by rw [HR.out.2 ⟨by decide +kernel, by decide +kernel, by decide +kernel⟩]; rfl⟩
    · have e23 : ρ (.tmp 23) = .bool true := hd (4, 23) (by simp)
      refine Goes.pure (.bool true) ?_ ⟨hC, Below.refl _ _, rfl⟩
      unfold Goes
      go_simp
    · have e3 : ρ (.tmp 3) = .bool true := ho 3 (by simp)
      refine Goes.pure (.bool true) ?_ ⟨hC, Below.refl _ _, rfl⟩
      unfold Goes
      go_simp
    · have e24 : ρ (.tmp 24) = .bool true := hd (5, 24) (by simp)
      have e25 : ρ (.tmp 25) = .bool true := hd (6, 25) (by simp)
      refine Goes.pure (.bool true) ?_ ⟨hC, Below.refl _ _, rfl⟩
      unfold Goes
      go_simp
    · have e26 : ρ (.tmp 26) = .bool true := hd (7, 26) (by simp)
      refine Goes.pure (.bool true) ?_ ⟨hC, Below.refl _ _, rfl⟩
      unfold Goes
      go_simp
    · have e2 : ρ (.tmp 2) = .pointer (some ⟨h1, 0, none⟩) := ho 2 (by simp)
      obtain ⟨c0, c1, c2⟩ := (y1.later hC).cells
      refine Goes.pure (.agg #[.bool ud1.s, .slice ud1.no ud1.nn ud1.nc, .slice ud1.eo ud1.en ud1.ec]) ?_ ⟨hC, Below.refl _ _, rfl⟩
      unfold Goes
      go_simp
    · refine Goes.call 35 #[.int .i64 5, .int .i64 1] (by go_simp) ?_
      refine Calls.mono (of3_any u 5 1 (by omega) (by omega) (by omega) (by omega)) ?_
      rintro e u' ⟨s1, no1, nn1, nc1, eo1, en1, ec1, rfl, cq, lb⟩
      exact ⟨_, rfl, hC.trans (lb.mono hC.size), lb, ⟨s1, no1, nn1, nc1, eo1, en1, ec1, rfl, cq⟩⟩
    · have e28 : ρ (.tmp 28) = .agg #[.bool ud1.s, .slice ud1.no ud1.nn ud1.nc, .slice ud1.eo ud1.en ud1.ec] := hd (9, 28) (by simp)
      obtain ⟨s29, no29, nn29, nc29, eo29, en29, ec29, e29, k29⟩ : VC ((((5 : Int) : Rat) / ((1 : Int) : Rat))) (2) (ρ (.tmp 29)) u := hd (10, 29) (by simp)
      refine Goes.call 16 #[.agg #[.bool ud1.s, .slice ud1.no ud1.nn ud1.nc, .slice ud1.eo ud1.en ud1.ec], .agg #[.bool s29, .slice no29 nn29 nc29, .slice eo29 en29 ec29]] (by go_simp) ?_
      refine Calls.mono (is3_any u ud1.s ud1.no ud1.nn ud1.nc ud1.eo ud1.en ud1.ec s29 no29 nn29 nc29 eo29 en29 ec29 _ _ _ _ (cl1.later hC).num (cl1.later hC).den k29.num k29.den (by have := (cl1.later hC).ln; omega) (by have := (cl1.later hC).ld; omega) (by have := k29.ln; omega) (by have := k29.ld; omega)) ?_
      rintro e u' ⟨r, rfl, HR, lb⟩
      exact ⟨_, rfl, hC.trans (lb.mono hC.size), lb, by rw [HR.out.2 (cq_same (cl1.later hC) k29 (by decide +kernel))]; rfl⟩
    · have e27 : ρ (.tmp 27) = .bool true := hd (8, 27) (by simp)
      have e30 : ρ (.tmp 30) = .bool true := hd (11, 30) (by simp)
      refine Goes.pure (.bool true) ?_ ⟨hC, Below.refl _ _, rfl⟩
      unfold Goes
      go_simp
    · have e31 : ρ (.tmp 31) = .bool true := hd (12, 31) (by simp)
      refine Goes.pure (.bool true) ?_ ⟨hC, Below.refl _ _, rfl⟩
      unfold Goes
      go_simp
    · have e1 : ρ (.tmp 1) = .pointer (some ⟨g1, 0, none⟩) := ho 1 (by simp)
      refine Goes.pure (.pointer (some ⟨g1, 0, none⟩)) ?_ ⟨hC, Below.refl _ _, rfl⟩
      unfold Goes
      go_simp
    · have e33 : ρ (.tmp 33) = .pointer (some ⟨g1, 0, none⟩) := hd (14, 33) (by simp)
      obtain ⟨c0, c1, c2⟩ := (x1.later hC).c0
      refine Goes.pure (.agg #[.bool ua1.s, .slice ua1.no ua1.nn ua1.nc, .slice ua1.eo ua1.en ua1.ec]) ?_ ⟨hC, Below.refl _ _, rfl⟩
      unfold Goes
      go_simp
    · refine Goes.call 35 #[.int .i64 3, .int .i64 5] (by go_simp) ?_
      refine Calls.mono (of3_any u 3 5 (by omega) (by omega) (by omega) (by omega)) ?_
      rintro e u' ⟨s1, no1, nn1, nc1, eo1, en1, ec1, rfl, cq, lb⟩
      exact ⟨_, rfl, hC.trans (lb.mono hC.size), lb, ⟨s1, no1, nn1, nc1, eo1, en1, ec1, rfl, cq⟩⟩
    · have e34 : ρ (.tmp 34) = .agg #[.bool ua1.s, .slice ua1.no ua1.nn ua1.nc, .slice ua1.eo ua1.en ua1.ec] := hd (15, 34) (by simp)
      obtain ⟨s35, no35, nn35, nc35, eo35, en35, ec35, e35, k35⟩ : VC ((((3 : Int) : Rat) / ((5 : Int) : Rat))) (2) (ρ (.tmp 35)) u := hd (16, 35) (by simp)
      refine Goes.call 16 #[.agg #[.bool ua1.s, .slice ua1.no ua1.nn ua1.nc, .slice ua1.eo ua1.en ua1.ec], .agg #[.bool s35, .slice no35 nn35 nc35, .slice eo35 en35 ec35]] (by go_simp) ?_
      refine Calls.mono (is3_any u ua1.s ua1.no ua1.nn ua1.nc ua1.eo ua1.en ua1.ec s35 no35 nn35 nc35 eo35 en35 ec35 _ _ _ _ ((cu1.later hC)).x.num ((cu1.later hC)).x.den k35.num k35.den (by have := ((cu1.later hC)).x.ln; omega) (by have := ((cu1.later hC)).x.ld; omega) (by have := k35.ln; omega) (by have := k35.ld; omega)) ?_
      rintro e u' ⟨r, rfl, HR, lb⟩
      exact ⟨_, rfl, hC.trans (lb.mono hC.size), lb, by rw [HR.out.2 (cq_same ((cu1.later hC)).x k35 (by decide +kernel))]; rfl⟩
    · have e32 : ρ (.tmp 32) = .bool true := hd (13, 32) (by simp)
      have e36 : ρ (.tmp 36) = .bool true := hd (17, 36) (by simp)
      refine Goes.pure (.bool true) ?_ ⟨hC, Below.refl _ _, rfl⟩
      unfold Goes
      go_simp
    · have e37 : ρ (.tmp 37) = .bool true := hd (18, 37) (by simp)
      refine Goes.pure (.bool true) ?_ ⟨hC, Below.refl _ _, rfl⟩
      unfold Goes
      go_simp
    · have e1 : ρ (.tmp 1) = .pointer (some ⟨g1, 0, none⟩) := ho 1 (by simp)
      refine Goes.pure (.pointer (some ⟨g1, 6, none⟩)) ?_ ⟨hC, Below.refl _ _, rfl⟩
      unfold Goes
      go_simp
    · have e39 : ρ (.tmp 39) = .pointer (some ⟨g1, 6, none⟩) := hd (20, 39) (by simp)
      obtain ⟨c0, c1, c2⟩ := (x1.later hC).c2
      refine Goes.pure (.agg #[.bool uc1.s, .slice uc1.no uc1.nn uc1.nc, .slice uc1.eo uc1.en uc1.ec]) ?_ ⟨hC, Below.refl _ _, rfl⟩
      unfold Goes
      go_simp
    · refine Goes.call 35 #[Value.int IntKind.i64 (-4), .int .i64 5] (by go_simp) ?_
      refine Calls.mono (of3_any u (-4) 5 (by omega) (by omega) (by omega) (by omega)) ?_
      rintro e u' ⟨s1, no1, nn1, nc1, eo1, en1, ec1, rfl, cq, lb⟩
      exact ⟨_, rfl, hC.trans (lb.mono hC.size), lb, ⟨s1, no1, nn1, nc1, eo1, en1, ec1, rfl, cq⟩⟩
    · have e40 : ρ (.tmp 40) = .agg #[.bool uc1.s, .slice uc1.no uc1.nn uc1.nc, .slice uc1.eo uc1.en uc1.ec] := hd (21, 40) (by simp)
      obtain ⟨s41, no41, nn41, nc41, eo41, en41, ec41, e41, k41⟩ : VC (((((-4) : Int) : Rat) / ((5 : Int) : Rat))) (2) (ρ (.tmp 41)) u := hd (22, 41) (by simp)
      refine Goes.call 16 #[.agg #[.bool uc1.s, .slice uc1.no uc1.nn uc1.nc, .slice uc1.eo uc1.en uc1.ec], .agg #[.bool s41, .slice no41 nn41 nc41, .slice eo41 en41 ec41]] (by go_simp) ?_
      refine Calls.mono (is3_any u uc1.s uc1.no uc1.nn uc1.nc uc1.eo uc1.en uc1.ec s41 no41 nn41 nc41 eo41 en41 ec41 _ _ _ _ ((cu1.later hC)).z.num ((cu1.later hC)).z.den k41.num k41.den (by have := ((cu1.later hC)).z.ln; omega) (by have := ((cu1.later hC)).z.ld; omega) (by have := k41.ln; omega) (by have := k41.ld; omega)) ?_
      rintro e u' ⟨r, rfl, HR, lb⟩
      exact ⟨_, rfl, hC.trans (lb.mono hC.size), lb, by rw [HR.out.2 (cq_same ((cu1.later hC)).z k41 (by decide +kernel))]; rfl⟩
    · have e38 : ρ (.tmp 38) = .bool true := hd (19, 38) (by simp)
      have e42 : ρ (.tmp 42) = .bool true := hd (23, 42) (by simp)
      refine Goes.pure (.bool true) ?_ ⟨hC, Below.refl _ _, rfl⟩
      unfold Goes
      go_simp
    · have e43 : ρ (.tmp 43) = .bool true := hd (24, 43) (by simp)
      refine Goes.pure (.bool true) ?_ ⟨hC, Below.refl _ _, rfl⟩
      unfold Goes
      go_simp
    · have e6 : ρ (.tmp 6) = .bool false := ho 6 (by simp)
      refine Goes.pure (.bool false) ?_ ⟨hC, Below.refl _ _, rfl⟩
      unfold Goes
      go_simp
    · have e45 : ρ (.tmp 45) = .bool false := hd (26, 45) (by simp)
      refine Goes.pure (.bool true) ?_ ⟨hC, Below.refl _ _, rfl⟩
      unfold Goes
      go_simp
    · have e44 : ρ (.tmp 44) = .bool true := hd (25, 44) (by simp)
      have e46 : ρ (.tmp 46) = .bool true := hd (27, 46) (by simp)
      refine Goes.pure (.bool true) ?_ ⟨hC, Below.refl _ _, rfl⟩
      unfold Goes
      go_simp
    · have e47 : ρ (.tmp 47) = .bool true := hd (28, 47) (by simp)
      refine Goes.pure (.bool true) ?_ ⟨hC, Below.refl _ _, rfl⟩
      unfold Goes
      go_simp
    · refine Goes.call 10 #[Value.slice none 0 0] (by go_simp) ?_
      refine Calls.mono (vsum_k (VW.nil 1 u) (by omega) (by simp)) ?_
      rintro e u' ⟨ra, rb, rc, rfl, cv, lb⟩
      exact ⟨_, rfl, hC.trans (lb.mono hC.size), lb, ⟨ra, rb, rc, rfl, cv.mono (by simp)⟩⟩
    · refine Goes.call 36 #[] (by go_simp) ?_
      refine Calls.mono (vzero5 (w := u)) ?_
      rintro e u' ⟨ra, rb, rc, rfl, cv, lb⟩
      exact ⟨_, rfl, hC.trans (lb.mono hC.size), lb, ⟨ra, rb, rc, rfl, cv⟩⟩
    · obtain ⟨ra49, rb49, rc49, e49, k49⟩ : VG (qsum []) (qsum []) (qsum []) (1) (ρ (.tmp 49)) u := hd (30, 49) (by simp)
      obtain ⟨ra50, rb50, rc50, e50, k50⟩ : VG (0) (0) (0) (1) (ρ (.tmp 50)) u := hd (31, 50) (by simp)
      refine Goes.call 9 #[.agg #[.bool ra49.s, .slice ra49.no ra49.nn ra49.nc, .slice ra49.eo ra49.en ra49.ec, .bool rb49.s, .slice rb49.no rb49.nn rb49.nc, .slice rb49.eo rb49.en rb49.ec, .bool rc49.s, .slice rc49.no rc49.nn rc49.nc, .slice rc49.eo rc49.en rc49.ec], .agg #[.bool ra50.s, .slice ra50.no ra50.nn ra50.nc, .slice ra50.eo ra50.en ra50.ec, .bool rb50.s, .slice rb50.no rb50.nn rb50.nc, .slice rb50.eo rb50.en rb50.ec, .bool rc50.s, .slice rc50.no rc50.nn rc50.nc, .slice rc50.eo rc50.en rc50.ec]] (by go_simp) ?_
      refine Calls.mono (vis5 (k49) (k50) (by omega) (by omega)) ?_
      rintro e u' ⟨r, rfl, HR, lb⟩
      exact ⟨_, rfl, hC.trans (lb.mono hC.size), lb, by rw [HR.out.2 ⟨rfl, rfl, rfl⟩]; rfl⟩
    · have e48 : ρ (.tmp 48) = .bool true := hd (29, 48) (by simp)
      have e51 : ρ (.tmp 51) = .bool true := hd (32, 51) (by simp)
      refine Goes.pure (.bool true) ?_ ⟨hC, Below.refl _ _, rfl⟩
      unfold Goes
      go_simp
  · intro vs u hC hv
    have eR : vs 33 = .bool true := hv 33 (by omega)
    clear hv
    simp only [puts, List.take, List.drop, Act.put, List.setIfInBounds_toArray, List.set_cons_succ, List.set_cons_zero, Nat.reduceAdd, eR]
    go_wp2
    go_ret
    exact ⟨rfl, B6.trans (hC.mono B6.size)⟩
end Go.Proofs.Ytmbemidacilakaa
