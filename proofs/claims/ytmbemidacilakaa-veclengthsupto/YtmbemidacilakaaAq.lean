/- penumbraref05: Of, Zero, Cross. -/
import Derived.Test.YtmbemidacilakaaAp
import Derived.Test.YtmbemidacilakaaAe
import Derived.Test.YtmbemidacilakaaAb
namespace Go.Proofs.Ytmbemidacilakaa
open Go.RowKit M Kahn
set_option maxRecDepth 100000

theorem bx_v (w : World) : ∃ w0, w0 = (w.alloc (.cells #[.bool false, .slice none 0 0, .slice none 0 0, .bool false, .slice none 0 0, .slice none 0 0, .bool false, .slice none 0 0, .slice none 0 0] 26)) ∧ Vb w0 w.heap.size zRP zRP zRP ∧ Below w.heap.size w w0 := by
  obtain ⟨w1, h1⟩ : ∃ w1, w1 = w.alloc (.cells #[.bool false, .slice none 0 0, .slice none 0 0, .bool false, .slice none 0 0, .slice none 0 0, .bool false, .slice none 0 0, .slice none 0 0] 26) := ⟨_, rfl⟩
  have l1 : Below w.heap.size w w1 := by rw [h1]; exact (Below.refl _ _).alloc (Nat.le_refl _) _
  have z1 : w1.heap.size = w.heap.size + 1 := by rw [h1]; simp
  have r1 : Vb w1 w.heap.size zRP zRP zRP := by rw [h1]; exact ⟨heap_alloc_new _ _⟩
  have b1 := l1
  exact ⟨w1, by rw [h1], r1, b1⟩
set_option maxHeartbeats 2000000 in
theorem vof5 {w : World} {x y z : Int} (x1 : -9223372036854775808 ≤ x) (x2 : x ≤ 9223372036854775807) (y1 : -9223372036854775808 ≤ y) (y2 : y ≤ 9223372036854775807) (z1 : -9223372036854775808 ≤ z) (z2 : z ≤ 9223372036854775807) : Calls Try.prog 34 #[.int .i64 x, .int .i64 y, .int .i64 z] w (Gv3 w (2) (((x : Int) : Rat) / ((1 : Int) : Rat)) (((y : Int) : Rat) / ((1 : Int) : Rat)) (((z : Int) : Rat) / ((1 : Int) : Rat))) := by
  obtain ⟨w0, hw0, xr, b0⟩ := bx_v w
  obtain ⟨g, hg⟩ : ∃ g, g = w.heap.size := ⟨_, rfl⟩
  have HG : Hid (w.heap.size ≤ g) := by show w.heap.size ≤ g; omega
  go_enter Try.func34, Try.ntmps34
  go_wp2_with fail
  rw [← hw0, ← hg]
  rw [← hg] at xr
  clear hw0 hg
  refine (of3_any w0 x 1 x1 x2 (by omega) (by omega)).mono ?_
  rintro e w1 ⟨s1, no1, nn1, nc1, eo1, en1, ec1, rfl, k1, lb⟩
  replace xr := xr.later lb
  replace b0 := b0.trans (lb.mono b0.size)
  clear lb
  go_wp2_with fail
  refine (of3_any w1 y 1 y1 y2 (by omega) (by omega)).mono ?_
  rintro e w2 ⟨s2, no2, nn2, nc2, eo2, en2, ec2, rfl, k2, lb⟩
  replace xr := xr.later lb
  replace b0 := b0.trans (lb.mono b0.size)
  replace k1 := k1.later lb
  clear lb
  go_wp2_with fail
  refine (of3_any w2 z 1 z1 z2 (by omega) (by omega)).mono ?_
  rintro e w3 ⟨s3, no3, nn3, nc3, eo3, en3, ec3, rfl, k3, lb⟩
  replace xr := xr.later lb
  replace b0 := b0.trans (lb.mono b0.size)
  replace k1 := k1.later lb
  replace k2 := k2.later lb
  clear lb
  obtain ⟨c0, c1, c2⟩ := xr.c0
  obtain ⟨c3, c4, c5⟩ := xr.c1
  obtain ⟨c6, c7, c8⟩ := xr.c2
  have f0 := xr.free 0
  have f1 := xr.free 1
  have f2 := xr.free 2
  have f3 := xr.free 3
  have f4 := xr.free 4
  have f5 := xr.free 5
  have f6 := xr.free 6
  have f7 := xr.free 7
  have f8 := xr.free 8
  go_wp2
  exact ret_storeV (x := ⟨s1, no1, nn1, nc1, eo1, en1, ec1⟩) (y := ⟨s2, no2, nn2, nc2, eo2, en2, ec2⟩) (z := ⟨s3, no3, nn3, nc3, eo3, en3, ec3⟩) rfl rfl rfl xr HG.out ⟨k1, k2, k3⟩ b0
set_option maxHeartbeats 2000000 in
theorem vzero5 {w : World}  : Calls Try.prog 36 #[] w (Gv3 w (1) (0) (0) (0)) := by
  obtain ⟨w0, hw0, xr, b0⟩ := bx_v w
  obtain ⟨g, hg⟩ : ∃ g, g = w.heap.size := ⟨_, rfl⟩
  have HG : Hid (w.heap.size ≤ g) := by show w.heap.size ≤ g; omega
  go_enter Try.func36, Try.ntmps36
  go_wp2_with fail
  rw [← hw0, ← hg]
  rw [← hg] at xr
  clear hw0 hg
  refine (zero3_any w0).mono ?_
  rintro e w1 ⟨s1, no1, nn1, nc1, eo1, en1, ec1, rfl, k1, lb⟩
  replace xr := xr.later lb
  replace b0 := b0.trans (lb.mono b0.size)
  clear lb
  go_wp2_with fail
  refine (zero3_any w1).mono ?_
  rintro e w2 ⟨s2, no2, nn2, nc2, eo2, en2, ec2, rfl, k2, lb⟩
  replace xr := xr.later lb
  replace b0 := b0.trans (lb.mono b0.size)
  replace k1 := k1.later lb
  clear lb
  go_wp2_with fail
  refine (zero3_any w2).mono ?_
  rintro e w3 ⟨s3, no3, nn3, nc3, eo3, en3, ec3, rfl, k3, lb⟩
  replace xr := xr.later lb
  replace b0 := b0.trans (lb.mono b0.size)
  replace k1 := k1.later lb
  replace k2 := k2.later lb
  clear lb
  obtain ⟨c0, c1, c2⟩ := xr.c0
  obtain ⟨c3, c4, c5⟩ := xr.c1
  obtain ⟨c6, c7, c8⟩ := xr.c2
  have f0 := xr.free 0
  have f1 := xr.free 1
  have f2 := xr.free 2
  have f3 := xr.free 3
  have f4 := xr.free 4
  have f5 := xr.free 5
  have f6 := xr.free 6
  have f7 := xr.free 7
  have f8 := xr.free 8
  go_wp2
  exact ret_storeV (x := ⟨s1, no1, nn1, nc1, eo1, en1, ec1⟩) (y := ⟨s2, no2, nn2, nc2, eo2, en2, ec2⟩) (z := ⟨s3, no3, nn3, nc3, eo3, en3, ec3⟩) rfl rfl rfl xr HG.out ⟨k1, k2, k3⟩ b0
set_option maxHeartbeats 8000000 in
theorem vcross5 {w : World} {a1 a2 a3 : RP} {qa1 qa2 qa3 : Rat} {b1 b2 b3 : RP} {qb1 qb2 qb3 : Rat} {K L : Nat} (ha0 : Qv w a1 a2 a3 qa1 qa2 qa3 K) (hb0 : Qv w b1 b2 b3 qb1 qb2 qb3 L) (K1 : 1 ≤ K) (L1 : 1 ≤ L) (hK : K + L + (K + L) + 1 ≤ 17179869184) :
    Calls Try.prog 20 #[.agg #[.bool a1.s, .slice a1.no a1.nn a1.nc, .slice a1.eo a1.en a1.ec, .bool a2.s, .slice a2.no a2.nn a2.nc, .slice a2.eo a2.en a2.ec, .bool a3.s, .slice a3.no a3.nn a3.nc, .slice a3.eo a3.en a3.ec], .agg #[.bool b1.s, .slice b1.no b1.nn b1.nc, .slice b1.eo b1.en b1.ec, .bool b2.s, .slice b2.no b2.nn b2.nc, .slice b2.eo b2.en b2.ec, .bool b3.s, .slice b3.no b3.nn b3.nc, .slice b3.eo b3.en b3.ec]] w (Gv3 w (K + L + (K + L) + 1) (qa2 * qb3 - qa3 * qb2) (qa3 * qb1 - qa1 * qb3) (qa1 * qb2 - qa2 * qb1)) := by
  obtain ⟨w0, hw0, x0, x1, x2, b0⟩ := bx_VVv w a1 a2 a3 b1 b2 b3
  have ha := ha0.later b0
  have hb := hb0.later b0
  clear ha0 hb0
  obtain ⟨g0, hg0⟩ : ∃ g0, g0 = w.heap.size := ⟨_, rfl⟩
  obtain ⟨g1, hg1⟩ : ∃ g1, g1 = w.heap.size + 1 := ⟨_, rfl⟩
  obtain ⟨g2, hg2⟩ : ∃ g2, g2 = w.heap.size + 2 := ⟨_, rfl⟩
  have HG : Hid (w.heap.size ≤ g2) := by show w.heap.size ≤ g2; omega
  go_enter Try.func20, Try.ntmps20
  go_wp2
  rw [← hw0, ← hg2, ← hg1, ← hg0]
  rw [← hg0] at x0
  rw [← hg1] at x1
  rw [← hg2] at x2
  clear hw0 hg0 hg1 hg2
  have HLst : Lst [VV (.pointer (some ⟨g0, 3, none⟩)), VV (.agg #[.bool a2.s, .slice a2.no a2.nn a2.nc, .slice a2.eo a2.en a2.ec]), VV (.pointer (some ⟨g1, 6, none⟩)), VV (.agg #[.bool b3.s, .slice b3.no b3.nn b3.nc, .slice b3.eo b3.en b3.ec]), VC ((qa2) * (qb3)) (K + (L)), VV (.pointer (some ⟨g0, 6, none⟩)), VV (.agg #[.bool a3.s, .slice a3.no a3.nn a3.nc, .slice a3.eo a3.en a3.ec]), VV (.pointer (some ⟨g1, 3, none⟩)), VV (.agg #[.bool b2.s, .slice b2.no b2.nn b2.nc, .slice b2.eo b2.en b2.ec]), VC ((qa3) * (qb2)) (K + (L)), VC ((qa2) * (qb3) - ((qa3) * (qb2))) (K + (L) + (K + (L)) + 1), VP w0.heap.size] := ⟨VV.lasts _, VV.lasts _, VV.lasts _, VV.lasts _, VC.lasts _ _, VV.lasts _, VV.lasts _, VV.lasts _, VV.lasts _, VC.lasts _ _, VC.lasts _ _, VP.lasts _, trivial⟩
  refine wp_region_kahn 12 45 [([], [2]), ([(0, 8)], []), ([], [3]), ([(2, 10)], []), ([(1, 9), (3, 11)], []), ([], [2]), ([(5, 13)], []), ([], [3]), ([(7, 15)], []), ([(6, 14), (8, 16)], []), ([(4, 12), (9, 17)], []), ([], [])]
    (fun u => Below w0.heap.size w0 u) (fun u u' => Below u.heap.size u u')
    (Sp [VV (.pointer (some ⟨g0, 3, none⟩)), VV (.agg #[.bool a2.s, .slice a2.no a2.nn a2.nc, .slice a2.eo a2.en a2.ec]), VV (.pointer (some ⟨g1, 6, none⟩)), VV (.agg #[.bool b3.s, .slice b3.no b3.nn b3.nc, .slice b3.eo b3.en b3.ec]), VC ((qa2) * (qb3)) (K + (L)), VV (.pointer (some ⟨g0, 6, none⟩)), VV (.agg #[.bool a3.s, .slice a3.no a3.nn a3.nc, .slice a3.eo a3.en a3.ec]), VV (.pointer (some ⟨g1, 3, none⟩)), VV (.agg #[.bool b2.s, .slice b2.no b2.nn b2.nc, .slice b2.eo b2.en b2.ec]), VC ((qa3) * (qb2)) (K + (L)), VC ((qa2) * (qb3) - ((qa3) * (qb2))) (K + (L) + (K + (L)) + 1), VP w0.heap.size])
    (by kernel_rfl) rfl (by kernel_rfl) (Below.refl _ _).drew (fun k v u u' _ hg hs => Sp.lasts HLst k v u u' hg hs) ?_ ?_
  · clear HLst
    refine ⟨.inl ⟨by simp, fun ρ u hC hc hf hd ho => ?_⟩, .inl ⟨by simp, fun ρ u hC hc hf hd ho => ?_⟩, .inl ⟨by simp, fun ρ u hC hc hf hd ho => ?_⟩, .inl ⟨by simp, fun ρ u hC hc hf hd ho => ?_⟩, .inl ⟨by simp, fun ρ u hC hc hf hd ho => ?_⟩, .inl ⟨by simp, fun ρ u hC hc hf hd ho => ?_⟩, .inl ⟨by simp, fun ρ u hC hc hf hd ho => ?_⟩, .inl ⟨by simp, fun ρ u hC hc hf hd ho => ?_⟩, .inl ⟨by simp, fun ρ u hC hc hf hd ho => ?_⟩, .inl ⟨by simp, fun ρ u hC hc hf hd ho => ?_⟩, .inl ⟨by simp, fun ρ u hC hc hf hd ho => ?_⟩, .inl ⟨by simp, fun ρ u hC hc hf hd ho => ?_⟩, trivial⟩
    · have e2 : ρ (.tmp 2) = .pointer (some ⟨g0, 0, none⟩) := ho 2 (by simp)
      refine Goes.pure (.pointer (some ⟨g0, 3, none⟩)) ?_ ⟨hC, Below.refl _ _, rfl⟩
      unfold Goes
      go_simp
    · have e8 : ρ (.tmp 8) = .pointer (some ⟨g0, 3, none⟩) := hd (0, 8) (by simp)
      obtain ⟨c0, c1, c2⟩ := (x0.later hC).c1
      refine Goes.pure (.agg #[.bool a2.s, .slice a2.no a2.nn a2.nc, .slice a2.eo a2.en a2.ec]) ?_ ⟨hC, Below.refl _ _, rfl⟩
      unfold Goes
      go_simp
    · have e3 : ρ (.tmp 3) = .pointer (some ⟨g1, 0, none⟩) := ho 3 (by simp)
      refine Goes.pure (.pointer (some ⟨g1, 6, none⟩)) ?_ ⟨hC, Below.refl _ _, rfl⟩
      unfold Goes
      go_simp
    · have e10 : ρ (.tmp 10) = .pointer (some ⟨g1, 6, none⟩) := hd (2, 10) (by simp)
      obtain ⟨c0, c1, c2⟩ := (x1.later hC).c2
      refine Goes.pure (.agg #[.bool b3.s, .slice b3.no b3.nn b3.nc, .slice b3.eo b3.en b3.ec]) ?_ ⟨hC, Below.refl _ _, rfl⟩
      unfold Goes
      go_simp
    · have e9 : ρ (.tmp 9) = .agg #[.bool a2.s, .slice a2.no a2.nn a2.nc, .slice a2.eo a2.en a2.ec] := hd (1, 9) (by simp)
      have e11 : ρ (.tmp 11) = .agg #[.bool b3.s, .slice b3.no b3.nn b3.nc, .slice b3.eo b3.en b3.ec] := hd (3, 11) (by simp)
      refine Goes.call 40 #[.agg #[.bool a2.s, .slice a2.no a2.nn a2.nc, .slice a2.eo a2.en a2.ec], .agg #[.bool b3.s, .slice b3.no b3.nn b3.nc, .slice b3.eo b3.en b3.ec]] (by go_simp) ?_
      refine Calls.mono (mul3_any u a2.s a2.no a2.nn a2.nc a2.eo a2.en a2.ec b3.s b3.no b3.nn b3.nc b3.eo b3.en b3.ec (K) (L) (qa2) (qb3) (ha.later hC).y (hb.later hC).z (by omega) (by omega)) ?_
      rintro e u' ⟨s1, no1, nn1, nc1, eo1, en1, ec1, rfl, cq, lb⟩
      exact ⟨_, rfl, hC.trans (lb.mono hC.size), lb, ⟨s1, no1, nn1, nc1, eo1, en1, ec1, rfl, cq⟩⟩
    · have e2 : ρ (.tmp 2) = .pointer (some ⟨g0, 0, none⟩) := ho 2 (by simp)
      refine Goes.pure (.pointer (some ⟨g0, 6, none⟩)) ?_ ⟨hC, Below.refl _ _, rfl⟩
      unfold Goes
      go_simp
    · have e13 : ρ (.tmp 13) = .pointer (some ⟨g0, 6, none⟩) := hd (5, 13) (by simp)
      obtain ⟨c0, c1, c2⟩ := (x0.later hC).c2
      refine Goes.pure (.agg #[.bool a3.s, .slice a3.no a3.nn a3.nc, .slice a3.eo a3.en a3.ec]) ?_ ⟨hC, Below.refl _ _, rfl⟩
      unfold Goes
      go_simp
    · have e3 : ρ (.tmp 3) = .pointer (some ⟨g1, 0, none⟩) := ho 3 (by simp)
      refine Goes.pure (.pointer (some ⟨g1, 3, none⟩)) ?_ ⟨hC, Below.refl _ _, rfl⟩
      unfold Goes
      go_simp
    · have e15 : ρ (.tmp 15) = .pointer (some ⟨g1, 3, none⟩) := hd (7, 15) (by simp)
      obtain ⟨c0, c1, c2⟩ := (x1.later hC).c1
      refine Goes.pure (.agg #[.bool b2.s, .slice b2.no b2.nn b2.nc, .slice b2.eo b2.en b2.ec]) ?_ ⟨hC, Below.refl _ _, rfl⟩
      unfold Goes
      go_simp
    · have e14 : ρ (.tmp 14) = .agg #[.bool a3.s, .slice a3.no a3.nn a3.nc, .slice a3.eo a3.en a3.ec] := hd (6, 14) (by simp)
      have e16 : ρ (.tmp 16) = .agg #[.bool b2.s, .slice b2.no b2.nn b2.nc, .slice b2.eo b2.en b2.ec] := hd (8, 16) (by simp)
      refine Goes.call 40 #[.agg #[.bool a3.s, .slice a3.no a3.nn a3.nc, .slice a3.eo a3.en a3.ec], .agg #[.bool b2.s, .slice b2.no b2.nn b2.nc, .slice b2.eo b2.en b2.ec]] (by go_simp) ?_
      refine Calls.mono (mul3_any u a3.s a3.no a3.nn a3.nc a3.eo a3.en a3.ec b2.s b2.no b2.nn b2.nc b2.eo b2.en b2.ec (K) (L) (qa3) (qb2) (ha.later hC).z (hb.later hC).y (by omega) (by omega)) ?_
      rintro e u' ⟨s1, no1, nn1, nc1, eo1, en1, ec1, rfl, cq, lb⟩
      exact ⟨_, rfl, hC.trans (lb.mono hC.size), lb, ⟨s1, no1, nn1, nc1, eo1, en1, ec1, rfl, cq⟩⟩
    · obtain ⟨s12, no12, nn12, nc12, eo12, en12, ec12, e12, k12⟩ : VC ((qa2) * (qb3)) (K + (L)) (ρ (.tmp 12)) u := hd (4, 12) (by simp)
      obtain ⟨s17, no17, nn17, nc17, eo17, en17, ec17, e17, k17⟩ : VC ((qa3) * (qb2)) (K + (L)) (ρ (.tmp 17)) u := hd (9, 17) (by simp)
      refine Goes.call 39 #[.agg #[.bool s12, .slice no12 nn12 nc12, .slice eo12 en12 ec12], .agg #[.bool s17, .slice no17 nn17 nc17, .slice eo17 en17 ec17]] (by go_simp) ?_
      refine Calls.mono (sub3_any u s12 no12 nn12 nc12 eo12 en12 ec12 s17 no17 nn17 nc17 eo17 en17 ec17 (K + (L)) (K + (L)) ((qa2) * (qb3)) ((qa3) * (qb2)) k12.rd k17.rd (by omega) (by omega) (by omega)) ?_
      rintro e u' ⟨s1, no1, nn1, nc1, eo1, en1, ec1, rfl, cq, lb⟩
      exact ⟨_, rfl, hC.trans (lb.mono hC.size), lb, ⟨s1, no1, nn1, nc1, eo1, en1, ec1, rfl, cq⟩⟩
    · have lb : Below u.heap.size u (u.alloc (.cells #[.bool false, .slice none 0 0, .slice none 0 0] 24)) := (Below.refl _ _).alloc (Nat.le_refl _) _
      refine Goes.run (.pointer (some ⟨u.heap.size, 0, none⟩)) (u.alloc (.cells #[.bool false, .slice none 0 0, .slice none 0 0] 24)) (by go_simp) ⟨hC.trans (lb.mono hC.size), lb, ⟨_, rfl, hC.size, ⟨heap_alloc_new _ _⟩⟩⟩
  · intro vs u hC hv
    obtain ⟨sy1, noy1, nny1, ncy1, eoy1, eny1, ecy1, eR, cR⟩ : VC ((qa2) * (qb3) - ((qa3) * (qb2))) (K + (L) + (K + (L)) + 1) (vs 10) u := hv 10 (by omega)
    obtain ⟨gy1, eP, hgy, bR⟩ : VP w0.heap.size (vs 11) u := hv 11 (by omega)
    obtain ⟨r0, r1, r2⟩ := bR.cells
    have f0 := bR.free 0
    have f1 := bR.free 1
    have f2 := bR.free 2
    have fr := Rb.putFr gy1 u (.bool sy1) (.slice noy1 nny1 ncy1) (.slice eoy1 eny1 ecy1)
    have yb1 := bR.put (.bool sy1) (.slice noy1 nny1 ncy1) (.slice eoy1 eny1 ecy1)
    have cy1 := cR.store bR fr
    have bW := hC.trans (fr.below hgy)
    replace ha := ha.later bW
    replace hb := hb.later bW
    replace x0 := x0.later bW
    replace x1 := x1.later bW
    replace x2 := x2.later bW
    replace b0 := b0.trans (bW.mono b0.size)
    clear hv
    simp only [puts, List.take, List.drop, Act.put, List.setIfInBounds_toArray, List.set_cons_succ, List.set_cons_zero, Nat.reduceAdd, eR, eP]
    go_wp2
    clear r0 r1 r2 f0 f1 f2 bR cR fr bW hC HLst
    generalize ((u.setCell ⟨gy1, 0, none⟩ (.bool sy1)).setCell ⟨gy1, 1, none⟩ (.slice noy1 nny1 ncy1)).setCell ⟨gy1, 2, none⟩ (.slice eoy1 eny1 ecy1) = w1 at *
    have HLst : Lst [VV (.pointer (some ⟨g0, 6, none⟩)), VV (.agg #[.bool a3.s, .slice a3.no a3.nn a3.nc, .slice a3.eo a3.en a3.ec]), VV (.pointer (some ⟨g1, 0, none⟩)), VV (.agg #[.bool b1.s, .slice b1.no b1.nn b1.nc, .slice b1.eo b1.en b1.ec]), VC ((qa3) * (qb1)) (K + (L)), VV (.pointer (some ⟨g0, 0, none⟩)), VV (.agg #[.bool a1.s, .slice a1.no a1.nn a1.nc, .slice a1.eo a1.en a1.ec]), VV (.pointer (some ⟨g1, 6, none⟩)), VV (.agg #[.bool b3.s, .slice b3.no b3.nn b3.nc, .slice b3.eo b3.en b3.ec]), VC ((qa1) * (qb3)) (K + (L)), VC ((qa3) * (qb1) - ((qa1) * (qb3))) (K + (L) + (K + (L)) + 1), VP w1.heap.size] := ⟨VV.lasts _, VV.lasts _, VV.lasts _, VV.lasts _, VC.lasts _ _, VV.lasts _, VV.lasts _, VV.lasts _, VV.lasts _, VC.lasts _ _, VC.lasts _ _, VP.lasts _, trivial⟩
    refine wp_region_kahn 12 45 [([], [2]), ([(0, 19)], []), ([], [3]), ([(2, 21)], []), ([(1, 20), (3, 22)], []), ([], [2]), ([(5, 24)], []), ([], [3]), ([(7, 26)], []), ([(6, 25), (8, 27)], []), ([(4, 23), (9, 28)], []), ([], [])]
      (fun u => Below w1.heap.size w1 u) (fun u u' => Below u.heap.size u u')
      (Sp [VV (.pointer (some ⟨g0, 6, none⟩)), VV (.agg #[.bool a3.s, .slice a3.no a3.nn a3.nc, .slice a3.eo a3.en a3.ec]), VV (.pointer (some ⟨g1, 0, none⟩)), VV (.agg #[.bool b1.s, .slice b1.no b1.nn b1.nc, .slice b1.eo b1.en b1.ec]), VC ((qa3) * (qb1)) (K + (L)), VV (.pointer (some ⟨g0, 0, none⟩)), VV (.agg #[.bool a1.s, .slice a1.no a1.nn a1.nc, .slice a1.eo a1.en a1.ec]), VV (.pointer (some ⟨g1, 6, none⟩)), VV (.agg #[.bool b3.s, .slice b3.no b3.nn b3.nc, .slice b3.eo b3.en b3.ec]), VC ((qa1) * (qb3)) (K + (L)), VC ((qa3) * (qb1) - ((qa1) * (qb3))) (K + (L) + (K + (L)) + 1), VP w1.heap.size])
      (by kernel_rfl) rfl (by kernel_rfl) (Below.refl _ _).drew (fun k v u u' _ hg hs => Sp.lasts HLst k v u u' hg hs) ?_ ?_
    · clear HLst
      refine ⟨.inl ⟨by simp, fun ρ u hC hc hf hd ho => ?_⟩, .inl ⟨by simp, fun ρ u hC hc hf hd ho => ?_⟩, .inl ⟨by simp, fun ρ u hC hc hf hd ho => ?_⟩, .inl ⟨by simp, fun ρ u hC hc hf hd ho => ?_⟩, .inl ⟨by simp, fun ρ u hC hc hf hd ho => ?_⟩, .inl ⟨by simp, fun ρ u hC hc hf hd ho => ?_⟩, .inl ⟨by simp, fun ρ u hC hc hf hd ho => ?_⟩, .inl ⟨by simp, fun ρ u hC hc hf hd ho => ?_⟩, .inl ⟨by simp, fun ρ u hC hc hf hd ho => ?_⟩, .inl ⟨by simp, fun ρ u hC hc hf hd ho => ?_⟩, .inl ⟨by simp, fun ρ u hC hc hf hd ho => ?_⟩, .inl ⟨by simp, fun ρ u hC hc hf hd ho => ?_⟩, trivial⟩
      · have e2 : ρ (.tmp 2) = .pointer (some ⟨g0, 0, none⟩) := ho 2 (by simp)
        refine Goes.pure (.pointer (some ⟨g0, 6, none⟩)) ?_ ⟨hC, Below.refl _ _, rfl⟩
        unfold Goes
        go_simp
      · have e19 : ρ (.tmp 19) = .pointer (some ⟨g0, 6, none⟩) := hd (0, 19) (by simp)
        obtain ⟨c0, c1, c2⟩ := (x0.later hC).c2
        refine Goes.pure (.agg #[.bool a3.s, .slice a3.no a3.nn a3.nc, .slice a3.eo a3.en a3.ec]) ?_ ⟨hC, Below.refl _ _, rfl⟩
        unfold Goes
        go_simp
      · have e3 : ρ (.tmp 3) = .pointer (some ⟨g1, 0, none⟩) := ho 3 (by simp)
        refine Goes.pure (.pointer (some ⟨g1, 0, none⟩)) ?_ ⟨hC, Below.refl _ _, rfl⟩
        unfold Goes
        go_simp
      · have e21 : ρ (.tmp 21) = .pointer (some ⟨g1, 0, none⟩) := hd (2, 21) (by simp)
        obtain ⟨c0, c1, c2⟩ := (x1.later hC).c0
        refine Goes.pure (.agg #[.bool b1.s, .slice b1.no b1.nn b1.nc, .slice b1.eo b1.en b1.ec]) ?_ ⟨hC, Below.refl _ _, rfl⟩
        unfold Goes
        go_simp
      · have e20 : ρ (.tmp 20) = .agg #[.bool a3.s, .slice a3.no a3.nn a3.nc, .slice a3.eo a3.en a3.ec] := hd (1, 20) (by simp)
        have e22 : ρ (.tmp 22) = .agg #[.bool b1.s, .slice b1.no b1.nn b1.nc, .slice b1.eo b1.en b1.ec] := hd (3, 22) (by simp)
        refine Goes.call 40 #[.agg #[.bool a3.s, .slice a3.no a3.nn a3.nc, .slice a3.eo a3.en a3.ec], .agg #[.bool b1.s, .slice b1.no b1.nn b1.nc, .slice b1.eo b1.en b1.ec]] (by go_simp) ?_
        refine Calls.mono (mul3_any u a3.s a3.no a3.nn a3.nc a3.eo a3.en a3.ec b1.s b1.no b1.nn b1.nc b1.eo b1.en b1.ec (K) (L) (qa3) (qb1) (ha.later hC).z (hb.later hC).x (by omega) (by omega)) ?_
        rintro e u' ⟨s1, no1, nn1, nc1, eo1, en1, ec1, rfl, cq, lb⟩
        exact ⟨_, rfl, hC.trans (lb.mono hC.size), lb, ⟨s1, no1, nn1, nc1, eo1, en1, ec1, rfl, cq⟩⟩
      · have e2 : ρ (.tmp 2) = .pointer (some ⟨g0, 0, none⟩) := ho 2 (by simp)
        refine Goes.pure (.pointer (some ⟨g0, 0, none⟩)) ?_ ⟨hC, Below.refl _ _, rfl⟩
        unfold Goes
        go_simp
      · have e24 : ρ (.tmp 24) = .pointer (some ⟨g0, 0, none⟩) := hd (5, 24) (by simp)
        obtain ⟨c0, c1, c2⟩ := (x0.later hC).c0
        refine Goes.pure (.agg #[.bool a1.s, .slice a1.no a1.nn a1.nc, .slice a1.eo a1.en a1.ec]) ?_ ⟨hC, Below.refl _ _, rfl⟩
        unfold Goes
        go_simp
      · have e3 : ρ (.tmp 3) = .pointer (some ⟨g1, 0, none⟩) := ho 3 (by simp)
        refine Goes.pure (.pointer (some ⟨g1, 6, none⟩)) ?_ ⟨hC, Below.refl _ _, rfl⟩
        unfold Goes
        go_simp
      · have e26 : ρ (.tmp 26) = .pointer (some ⟨g1, 6, none⟩) := hd (7, 26) (by simp)
        obtain ⟨c0, c1, c2⟩ := (x1.later hC).c2
        refine Goes.pure (.agg #[.bool b3.s, .slice b3.no b3.nn b3.nc, .slice b3.eo b3.en b3.ec]) ?_ ⟨hC, Below.refl _ _, rfl⟩
        unfold Goes
        go_simp
      · have e25 : ρ (.tmp 25) = .agg #[.bool a1.s, .slice a1.no a1.nn a1.nc, .slice a1.eo a1.en a1.ec] := hd (6, 25) (by simp)
        have e27 : ρ (.tmp 27) = .agg #[.bool b3.s, .slice b3.no b3.nn b3.nc, .slice b3.eo b3.en b3.ec] := hd (8, 27) (by simp)
        refine Goes.call 40 #[.agg #[.bool a1.s, .slice a1.no a1.nn a1.nc, .slice a1.eo a1.en a1.ec], .agg #[.bool b3.s, .slice b3.no b3.nn b3.nc, .slice b3.eo b3.en b3.ec]] (by go_simp) ?_
        refine Calls.mono (mul3_any u a1.s a1.no a1.nn a1.nc a1.eo a1.en a1.ec b3.s b3.no b3.nn b3.nc b3.eo b3.en b3.ec (K) (L) (qa1) (qb3) (ha.later hC).x (hb.later hC).z (by omega) (by omega)) ?_
        rintro e u' ⟨s1, no1, nn1, nc1, eo1, en1, ec1, rfl, cq, lb⟩
        exact ⟨_, rfl, hC.trans (lb.mono hC.size), lb, ⟨s1, no1, nn1, nc1, eo1, en1, ec1, rfl, cq⟩⟩
      · obtain ⟨s23, no23, nn23, nc23, eo23, en23, ec23, e23, k23⟩ : VC ((qa3) * (qb1)) (K + (L)) (ρ (.tmp 23)) u := hd (4, 23) (by simp)
        obtain ⟨s28, no28, nn28, nc28, eo28, en28, ec28, e28, k28⟩ : VC ((qa1) * (qb3)) (K + (L)) (ρ (.tmp 28)) u := hd (9, 28) (by simp)
        refine Goes.call 39 #[.agg #[.bool s23, .slice no23 nn23 nc23, .slice eo23 en23 ec23], .agg #[.bool s28, .slice no28 nn28 nc28, .slice eo28 en28 ec28]] (by go_simp) ?_
        refine Calls.mono (sub3_any u s23 no23 nn23 nc23 eo23 en23 ec23 s28 no28 nn28 nc28 eo28 en28 ec28 (K + (L)) (K + (L)) ((qa3) * (qb1)) ((qa1) * (qb3)) k23.rd k28.rd (by omega) (by omega) (by omega)) ?_
        rintro e u' ⟨s1, no1, nn1, nc1, eo1, en1, ec1, rfl, cq, lb⟩
        exact ⟨_, rfl, hC.trans (lb.mono hC.size), lb, ⟨s1, no1, nn1, nc1, eo1, en1, ec1, rfl, cq⟩⟩
      · have lb : Below u.heap.size u (u.alloc (.cells #[.bool false, .slice none 0 0, .slice none 0 0] 24)) := (Below.refl _ _).alloc (Nat.le_refl _) _
        refine Goes.run (.pointer (some ⟨u.heap.size, 0, none⟩)) (u.alloc (.cells #[.bool false, .slice none 0 0, .slice none 0 0] 24)) (by go_simp) ⟨hC.trans (lb.mono hC.size), lb, ⟨_, rfl, hC.size, ⟨heap_alloc_new _ _⟩⟩⟩
    · intro vs u hC hv
      obtain ⟨sy2, noy2, nny2, ncy2, eoy2, eny2, ecy2, eR, cR⟩ : VC ((qa3) * (qb1) - ((qa1) * (qb3))) (K + (L) + (K + (L)) + 1) (vs 10) u := hv 10 (by omega)
      obtain ⟨gy2, eP, hgy, bR⟩ : VP w1.heap.size (vs 11) u := hv 11 (by omega)
      obtain ⟨r0, r1, r2⟩ := bR.cells
      have f0 := bR.free 0
      have f1 := bR.free 1
      have f2 := bR.free 2
      have fr := Rb.putFr gy2 u (.bool sy2) (.slice noy2 nny2 ncy2) (.slice eoy2 eny2 ecy2)
      have yb2 := bR.put (.bool sy2) (.slice noy2 nny2 ncy2) (.slice eoy2 eny2 ecy2)
      have cy2 := cR.store bR fr
      have bW := hC.trans (fr.below hgy)
      replace ha := ha.later bW
      replace hb := hb.later bW
      replace x0 := x0.later bW
      replace x1 := x1.later bW
      replace x2 := x2.later bW
      replace b0 := b0.trans (bW.mono b0.size)
      replace yb1 := yb1.later bW
      replace cy1 := cy1.later bW
      clear hv
      simp only [puts, List.take, List.drop, Act.put, List.setIfInBounds_toArray, List.set_cons_succ, List.set_cons_zero, Nat.reduceAdd, eR, eP]
      go_wp2
      clear r0 r1 r2 f0 f1 f2 bR cR fr bW hC HLst
      generalize ((u.setCell ⟨gy2, 0, none⟩ (.bool sy2)).setCell ⟨gy2, 1, none⟩ (.slice noy2 nny2 ncy2)).setCell ⟨gy2, 2, none⟩ (.slice eoy2 eny2 ecy2) = w2 at *
      have HLst : Lst [VV (.pointer (some ⟨g0, 0, none⟩)), VV (.agg #[.bool a1.s, .slice a1.no a1.nn a1.nc, .slice a1.eo a1.en a1.ec]), VV (.pointer (some ⟨g1, 3, none⟩)), VV (.agg #[.bool b2.s, .slice b2.no b2.nn b2.nc, .slice b2.eo b2.en b2.ec]), VC ((qa1) * (qb2)) (K + (L)), VV (.pointer (some ⟨g0, 3, none⟩)), VV (.agg #[.bool a2.s, .slice a2.no a2.nn a2.nc, .slice a2.eo a2.en a2.ec]), VV (.pointer (some ⟨g1, 0, none⟩)), VV (.agg #[.bool b1.s, .slice b1.no b1.nn b1.nc, .slice b1.eo b1.en b1.ec]), VC ((qa2) * (qb1)) (K + (L)), VC ((qa1) * (qb2) - ((qa2) * (qb1))) (K + (L) + (K + (L)) + 1), VP w2.heap.size] := ⟨VV.lasts _, VV.lasts _, VV.lasts _, VV.lasts _, VC.lasts _ _, VV.lasts _, VV.lasts _, VV.lasts _, VV.lasts _, VC.lasts _ _, VC.lasts _ _, VP.lasts _, trivial⟩
      refine wp_region_kahn 12 45 [([], [2]), ([(0, 30)], []), ([], [3]), ([(2, 32)], []), ([(1, 31), (3, 33)], []), ([], [2]), ([(5, 35)], []), ([], [3]), ([(7, 37)], []), ([(6, 36), (8, 38)], []), ([(4, 34), (9, 39)], []), ([], [])]
        (fun u => Below w2.heap.size w2 u) (fun u u' => Below u.heap.size u u')
        (Sp [VV (.pointer (some ⟨g0, 0, none⟩)), VV (.agg #[.bool a1.s, .slice a1.no a1.nn a1.nc, .slice a1.eo a1.en a1.ec]), VV (.pointer (some ⟨g1, 3, none⟩)), VV (.agg #[.bool b2.s, .slice b2.no b2.nn b2.nc, .slice b2.eo b2.en b2.ec]), VC ((qa1) * (qb2)) (K + (L)), VV (.pointer (some ⟨g0, 3, none⟩)), VV (.agg #[.bool a2.s, .slice a2.no a2.nn a2.nc, .slice a2.eo a2.en a2.ec]), VV (.pointer (some ⟨g1, 0, none⟩)), VV (.agg #[.bool b1.s, .slice b1.no b1.nn b1.nc, .slice b1.eo b1.en b1.ec]), VC ((qa2) * (qb1)) (K + (L)), VC ((qa1) * (qb2) - ((qa2) * (qb1))) (K + (L) + (K + (L)) + 1), VP w2.heap.size])
        (by kernel_rfl) rfl (by kernel_rfl) (Below.refl _ _).drew (fun k v u u' _ hg hs => Sp.lasts HLst k v u u' hg hs) ?_ ?_
      · clear HLst
        refine ⟨.inl ⟨by simp, fun ρ u hC hc hf hd ho => ?_⟩, .inl ⟨by simp, fun ρ u hC hc hf hd ho => ?_⟩, .inl ⟨by simp, fun ρ u hC hc hf hd ho => ?_⟩, .inl ⟨by simp, fun ρ u hC hc hf hd ho => ?_⟩, .inl ⟨by simp, fun ρ u hC hc hf hd ho => ?_⟩, .inl ⟨by simp, fun ρ u hC hc hf hd ho => ?_⟩, .inl ⟨by simp, fun ρ u hC hc hf hd ho => ?_⟩, .inl ⟨by simp, fun ρ u hC hc hf hd ho => ?_⟩, .inl ⟨by simp, fun ρ u hC hc hf hd ho => ?_⟩, .inl ⟨by simp, fun ρ u hC hc hf hd ho => ?_⟩, .inl ⟨by simp, fun ρ u hC hc hf hd ho => ?_⟩, .inl ⟨by simp, fun ρ u hC hc hf hd ho => ?_⟩, trivial⟩
        · have e2 : ρ (.tmp 2) = .pointer (some ⟨g0, 0, none⟩) := ho 2 (by simp)
          refine Goes.pure (.pointer (some ⟨g0, 0, none⟩)) ?_ ⟨hC, Below.refl _ _, rfl⟩
          unfold Goes
          go_simp
        · have e30 : ρ (.tmp 30) = .pointer (some ⟨g0, 0, none⟩) := hd (0, 30) (by simp)
          obtain ⟨c0, c1, c2⟩ := (x0.later hC).c0
          refine Goes.pure (.agg #[.bool a1.s, .slice a1.no a1.nn a1.nc, .slice a1.eo a1.en a1.ec]) ?_ ⟨hC, Below.refl _ _, rfl⟩
          unfold Goes
          go_simp
        · have e3 : ρ (.tmp 3) = .pointer (some ⟨g1, 0, none⟩) := ho 3 (by simp)
          refine Goes.pure (.pointer (some ⟨g1, 3, none⟩)) ?_ ⟨hC, Below.refl _ _, rfl⟩
          unfold Goes
          go_simp
        · have e32 : ρ (.tmp 32) = .pointer (some ⟨g1, 3, none⟩) := hd (2, 32) (by simp)
          obtain ⟨c0, c1, c2⟩ := (x1.later hC).c1
          refine Goes.pure (.agg #[.bool b2.s, .slice b2.no b2.nn b2.nc, .slice b2.eo b2.en b2.ec]) ?_ ⟨hC, Below.refl _ _, rfl⟩
          unfold Goes
          go_simp
        · have e31 : ρ (.tmp 31) = .agg #[.bool a1.s, .slice a1.no a1.nn a1.nc, .slice a1.eo a1.en a1.ec] := hd (1, 31) (by simp)
          have e33 : ρ (.tmp 33) = .agg #[.bool b2.s, .slice b2.no b2.nn b2.nc, .slice b2.eo b2.en b2.ec] := hd (3, 33) (by simp)
          refine Goes.call 40 #[.agg #[.bool a1.s, .slice a1.no a1.nn a1.nc, .slice a1.eo a1.en a1.ec], .agg #[.bool b2.s, .slice b2.no b2.nn b2.nc, .slice b2.eo b2.en b2.ec]] (by go_simp) ?_
          refine Calls.mono (mul3_any u a1.s a1.no a1.nn a1.nc a1.eo a1.en a1.ec b2.s b2.no b2.nn b2.nc b2.eo b2.en b2.ec (K) (L) (qa1) (qb2) (ha.later hC).x (hb.later hC).y (by omega) (by omega)) ?_
          rintro e u' ⟨s1, no1, nn1, nc1, eo1, en1, ec1, rfl, cq, lb⟩
          exact ⟨_, rfl, hC.trans (lb.mono hC.size), lb, ⟨s1, no1, nn1, nc1, eo1, en1, ec1, rfl, cq⟩⟩
        · have e2 : ρ (.tmp 2) = .pointer (some ⟨g0, 0, none⟩) := ho 2 (by simp)
          refine Goes.pure (.pointer (some ⟨g0, 3, none⟩)) ?_ ⟨hC, Below.refl _ _, rfl⟩
          unfold Goes
          go_simp
        · have e35 : ρ (.tmp 35) = .pointer (some ⟨g0, 3, none⟩) := hd (5, 35) (by simp)
          obtain ⟨c0, c1, c2⟩ := (x0.later hC).c1
          refine Goes.pure (.agg #[.bool a2.s, .slice a2.no a2.nn a2.nc, .slice a2.eo a2.en a2.ec]) ?_ ⟨hC, Below.refl _ _, rfl⟩
          unfold Goes
          go_simp
        · have e3 : ρ (.tmp 3) = .pointer (some ⟨g1, 0, none⟩) := ho 3 (by simp)
          refine Goes.pure (.pointer (some ⟨g1, 0, none⟩)) ?_ ⟨hC, Below.refl _ _, rfl⟩
          unfold Goes
          go_simp
        · have e37 : ρ (.tmp 37) = .pointer (some ⟨g1, 0, none⟩) := hd (7, 37) (by simp)
          obtain ⟨c0, c1, c2⟩ := (x1.later hC).c0
          refine Goes.pure (.agg #[.bool b1.s, .slice b1.no b1.nn b1.nc, .slice b1.eo b1.en b1.ec]) ?_ ⟨hC, Below.refl _ _, rfl⟩
          unfold Goes
          go_simp
        · have e36 : ρ (.tmp 36) = .agg #[.bool a2.s, .slice a2.no a2.nn a2.nc, .slice a2.eo a2.en a2.ec] := hd (6, 36) (by simp)
          have e38 : ρ (.tmp 38) = .agg #[.bool b1.s, .slice b1.no b1.nn b1.nc, .slice b1.eo b1.en b1.ec] := hd (8, 38) (by simp)
          refine Goes.call 40 #[.agg #[.bool a2.s, .slice a2.no a2.nn a2.nc, .slice a2.eo a2.en a2.ec], .agg #[.bool b1.s, .slice b1.no b1.nn b1.nc, .slice b1.eo b1.en b1.ec]] (by go_simp) ?_
          refine Calls.mono (mul3_any u a2.s a2.no a2.nn a2.nc a2.eo a2.en a2.ec b1.s b1.no b1.nn b1.nc b1.eo b1.en b1.ec (K) (L) (qa2) (qb1) (ha.later hC).y (hb.later hC).x (by omega) (by omega)) ?_
          rintro e u' ⟨s1, no1, nn1, nc1, eo1, en1, ec1, rfl, cq, lb⟩
          exact ⟨_, rfl, hC.trans (lb.mono hC.size), lb, ⟨s1, no1, nn1, nc1, eo1, en1, ec1, rfl, cq⟩⟩
        · obtain ⟨s34, no34, nn34, nc34, eo34, en34, ec34, e34, k34⟩ : VC ((qa1) * (qb2)) (K + (L)) (ρ (.tmp 34)) u := hd (4, 34) (by simp)
          obtain ⟨s39, no39, nn39, nc39, eo39, en39, ec39, e39, k39⟩ : VC ((qa2) * (qb1)) (K + (L)) (ρ (.tmp 39)) u := hd (9, 39) (by simp)
          refine Goes.call 39 #[.agg #[.bool s34, .slice no34 nn34 nc34, .slice eo34 en34 ec34], .agg #[.bool s39, .slice no39 nn39 nc39, .slice eo39 en39 ec39]] (by go_simp) ?_
          refine Calls.mono (sub3_any u s34 no34 nn34 nc34 eo34 en34 ec34 s39 no39 nn39 nc39 eo39 en39 ec39 (K + (L)) (K + (L)) ((qa1) * (qb2)) ((qa2) * (qb1)) k34.rd k39.rd (by omega) (by omega) (by omega)) ?_
          rintro e u' ⟨s1, no1, nn1, nc1, eo1, en1, ec1, rfl, cq, lb⟩
          exact ⟨_, rfl, hC.trans (lb.mono hC.size), lb, ⟨s1, no1, nn1, nc1, eo1, en1, ec1, rfl, cq⟩⟩
        · have lb : Below u.heap.size u (u.alloc (.cells #[.bool false, .slice none 0 0, .slice none 0 0] 24)) := (Below.refl _ _).alloc (Nat.le_refl _) _
          refine Goes.run (.pointer (some ⟨u.heap.size, 0, none⟩)) (u.alloc (.cells #[.bool false, .slice none 0 0, .slice none 0 0] 24)) (by go_simp) ⟨hC.trans (lb.mono hC.size), lb, ⟨_, rfl, hC.size, ⟨heap_alloc_new _ _⟩⟩⟩
      · intro vs u hC hv
        obtain ⟨sy3, noy3, nny3, ncy3, eoy3, eny3, ecy3, eR, cR⟩ : VC ((qa1) * (qb2) - ((qa2) * (qb1))) (K + (L) + (K + (L)) + 1) (vs 10) u := hv 10 (by omega)
        obtain ⟨gy3, eP, hgy, bR⟩ : VP w2.heap.size (vs 11) u := hv 11 (by omega)
        obtain ⟨r0, r1, r2⟩ := bR.cells
        have f0 := bR.free 0
        have f1 := bR.free 1
        have f2 := bR.free 2
        have fr := Rb.putFr gy3 u (.bool sy3) (.slice noy3 nny3 ncy3) (.slice eoy3 eny3 ecy3)
        have yb3 := bR.put (.bool sy3) (.slice noy3 nny3 ncy3) (.slice eoy3 eny3 ecy3)
        have cy3 := cR.store bR fr
        have bW := hC.trans (fr.below hgy)
        replace ha := ha.later bW
        replace hb := hb.later bW
        replace x0 := x0.later bW
        replace x1 := x1.later bW
        replace x2 := x2.later bW
        replace b0 := b0.trans (bW.mono b0.size)
        replace yb1 := yb1.later bW
        replace cy1 := cy1.later bW
        replace yb2 := yb2.later bW
        replace cy2 := cy2.later bW
        clear hv
        simp only [puts, List.take, List.drop, Act.put, List.setIfInBounds_toArray, List.set_cons_succ, List.set_cons_zero, Nat.reduceAdd, eR, eP]
        have xr := x2
        obtain ⟨c0, c1, c2⟩ := xr.c0
        obtain ⟨c3, c4, c5⟩ := xr.c1
        obtain ⟨c6, c7, c8⟩ := xr.c2
        have p0 := xr.free 0
        have p1 := xr.free 1
        have p2 := xr.free 2
        have p3 := xr.free 3
        have p4 := xr.free 4
        have p5 := xr.free 5
        have p6 := xr.free 6
        have p7 := xr.free 7
        have p8 := xr.free 8
        obtain ⟨d10, d11, d12⟩ := yb1.cells
        obtain ⟨d20, d21, d22⟩ := yb2.cells
        obtain ⟨d30, d31, d32⟩ := yb3.cells
        clear bW
        go_wp2
        exact ret_storeV (x := ⟨sy1, noy1, nny1, ncy1, eoy1, eny1, ecy1⟩) (y := ⟨sy2, noy2, nny2, ncy2, eoy2, eny2, ecy2⟩) (z := ⟨sy3, noy3, nny3, ncy3, eoy3, eny3, ecy3⟩) rfl rfl rfl xr HG.out ⟨cy1, cy2, cy3⟩ b0
end Go.Proofs.Ytmbemidacilakaa

/- penumbraref03: Over. -/
namespace Go.Proofs.Ytmbemidacilakaa
open Go.RowKit M Kahn
set_option maxRecDepth 100000

set_option maxHeartbeats 4000000 in
theorem over3_any {w : World} {a b : RP} {q p : Rat} {K L : Nat} (ha0 : Qp w a q K) (hb0 : Qp w b p L) (K1 : 1 ≤ K) (L1 : 1 ≤ L) (hK : K + L + 1 ≤ 17179869184) :
    Calls Try.prog 51 #[.agg #[.bool a.s, .slice a.no a.nn a.nc, .slice a.eo a.en a.ec], .agg #[.bool b.s, .slice b.no b.nn b.nc, .slice b.eo b.en b.ec]] w (Gq w (K + L) (q / p)) := by
  obtain ⟨w0, hw0, x0, x1, x2, b0⟩ := box3 w (.bool a.s) (.slice a.no a.nn a.nc) (.slice a.eo a.en a.ec) (.bool b.s) (.slice b.no b.nn b.nc) (.slice b.eo b.en b.ec)
  have ha := ha0.later b0
  have hb := hb0.later b0
  clear ha0 hb0
  obtain ⟨c0, c1, c2⟩ := x0.cells
  obtain ⟨d0, d1, d2⟩ := x1.cells
  rw [hw0] at c0 c1 c2 d0 d1 d2
  obtain ⟨g2, hg2⟩ : ∃ g2, g2 = w.heap.size + 2 := ⟨_, rfl⟩
  have HG : Hid (w.heap.size ≤ g2) := by show w.heap.size ≤ g2; omega
  go_enter Try.func51, Try.ntmps51
  go_wp2_with fail
  rw [← hw0, ← hg2]
  rw [← hg2] at x2
  clear c0 c1 c2 d0 d1 d2
  refine (div3_any w0 a.s a.no a.nn a.nc a.eo a.en a.ec b.s b.no b.nn b.nc b.eo b.en b.ec K L q p ha hb K1 L1 hK).mono ?_
  rintro e w1 ⟨s1, no1, nn1, nc1, eo1, en1, ec1, rfl, cq, lb⟩
  replace x2 := x2.later lb
  replace b0 := b0.trans (lb.mono b0.size)
  obtain ⟨r0, r1, r2⟩ := x2.cells
  have f0 := x2.free 0
  have f1 := x2.free 1
  have f2 := x2.free 2
  have fr := Rb.putFr g2 w1 (.bool s1) (.slice no1 nn1 nc1) (.slice eo1 en1 ec1)
  have yb := x2.put (.bool s1) (.slice no1 nn1 nc1) (.slice eo1 en1 ec1)
  have cs := cq.store x2 fr
  have hlt := x2.lt
  clear hw0 hg2 x0 x1 ha hb lb
  go_wp2
  have B2 := b0.trans (fr.below HG.out)
  generalize ((w1.setCell ⟨g2, 0, none⟩ (.bool s1)).setCell ⟨g2, 1, none⟩ (.slice no1 nn1 nc1)).setCell ⟨g2, 2, none⟩ (.slice eo1 en1 ec1) = w2 at *
  have lc : Below w2.heap.size w2 (w2.alloc (.cells #[.bool s1, .slice no1 nn1 nc1, .slice eo1 en1 ec1] 24)) := (Below.refl _ _).alloc (Nat.le_refl _) _
  exact ret_rat rfl rfl rfl (yb.later lc) ⟨s1, no1, nn1, nc1, eo1, en1, ec1, rfl, cs.later lc, B2.trans (lc.mono B2.size)⟩
end Go.Proofs.Ytmbemidacilakaa

/- penumbraref05: Unit. -/
namespace Go.Proofs.Ytmbemidacilakaa
open Go.RowKit M Kahn
set_option maxRecDepth 100000

theorem bx_Vvr (w : World) (a0 b0 c0 : RP) : ∃ w0, w0 = (((w.alloc (.cells #[.bool a0.s, .slice a0.no a0.nn a0.nc, .slice a0.eo a0.en a0.ec, .bool b0.s, .slice b0.no b0.nn b0.nc, .slice b0.eo b0.en b0.ec, .bool c0.s, .slice c0.no c0.nn c0.nc, .slice c0.eo c0.en c0.ec] 26)).alloc (.cells #[.bool false, .slice none 0 0, .slice none 0 0, .bool false, .slice none 0 0, .slice none 0 0, .bool false, .slice none 0 0, .slice none 0 0] 26)).alloc (.cells #[.bool false, .slice none 0 0, .slice none 0 0] 24)) ∧ Vb w0 w.heap.size a0 b0 c0 ∧ Vb w0 (w.heap.size + 1) zRP zRP zRP ∧ Rb w0 (w.heap.size + 2) (.bool false) (.slice none 0 0) (.slice none 0 0) ∧ Below w.heap.size w w0 := by
  obtain ⟨w1, h1⟩ : ∃ w1, w1 = w.alloc (.cells #[.bool a0.s, .slice a0.no a0.nn a0.nc, .slice a0.eo a0.en a0.ec, .bool b0.s, .slice b0.no b0.nn b0.nc, .slice b0.eo b0.en b0.ec, .bool c0.s, .slice c0.no c0.nn c0.nc, .slice c0.eo c0.en c0.ec] 26) := ⟨_, rfl⟩
  have l1 : Below w.heap.size w w1 := by rw [h1]; exact (Below.refl _ _).alloc (Nat.le_refl _) _
  have z1 : w1.heap.size = w.heap.size + 1 := by rw [h1]; simp
  have r1 : Vb w1 w.heap.size a0 b0 c0 := by rw [h1]; exact ⟨heap_alloc_new _ _⟩
  obtain ⟨w2, h2⟩ : ∃ w2, w2 = w1.alloc (.cells #[.bool false, .slice none 0 0, .slice none 0 0, .bool false, .slice none 0 0, .slice none 0 0, .bool false, .slice none 0 0, .slice none 0 0] 26) := ⟨_, rfl⟩
  have l2 : Below w1.heap.size w1 w2 := by rw [h2]; exact (Below.refl _ _).alloc (Nat.le_refl _) _
  have z2 : w2.heap.size = w1.heap.size + 1 := by rw [h2]; simp
  have r2 : Vb w2 w1.heap.size zRP zRP zRP := by rw [h2]; exact ⟨heap_alloc_new _ _⟩
  obtain ⟨w3, h3⟩ : ∃ w3, w3 = w2.alloc (.cells #[.bool false, .slice none 0 0, .slice none 0 0] 24) := ⟨_, rfl⟩
  have l3 : Below w2.heap.size w2 w3 := by rw [h3]; exact (Below.refl _ _).alloc (Nat.le_refl _) _
  have z3 : w3.heap.size = w2.heap.size + 1 := by rw [h3]; simp
  have r3 : Rb w3 w2.heap.size (.bool false) (.slice none 0 0) (.slice none 0 0) := by rw [h3]; exact ⟨heap_alloc_new _ _⟩
  replace r1 := r1.later l2
  replace r1 := r1.later l3
  replace r2 := r2.later l3
  have b1 := l1
  have b2 := b1.trans (l2.mono b1.size)
  have b3 := b2.trans (l3.mono b2.size)
  rw [show w1.heap.size = w.heap.size + 1 from by omega] at r2
  rw [show w2.heap.size = w.heap.size + 2 from by omega] at r3
  exact ⟨w3, by rw [h3, h2, h1], r1, r2, r3, b3⟩
theorem results_cct {fn : Func} {p q u : Tmp} {ty ty' : TypeId} (h : fn.results = #[.cell p ty, .cell q ty', .tmp u]) (tmps : Array Value) (P : Program) (w : World) :
    (results fn tmps).run P w =
      ((asAddr (tmps.getD p undef)).run P w).andThen fun a w₁ => ((loadVar ty a).run P w₁).andThen fun v w₂ => ((asAddr (tmps.getD q undef)).run P w₂).andThen fun a' w₃ => ((loadVar ty' a').run P w₃).andThen fun v' w₄ => .ok (.tuple #[v, v', tmps.getD u undef]) w₄ := by
  simp only [results, h]
  simp [Sem.run_bind, Result.andThen]
/-- A Vec, a Rat and a bool are handed back. -/
theorem ret_vrb {fn : Func} {p q t : Tmp} {act : Act} {w : World} {g k : Nat} {a b c : RP} {x y z v : Value} {R : Ending → World → Prop} (h : fn.results = #[.cell p 26, .cell q 24, .tmp t]) (hp : act.tmps.getD p undef = .pointer (some ⟨g, 0, none⟩)) (hq : act.tmps.getD q undef = .pointer (some ⟨k, 0, none⟩)) (ht : act.tmps.getD t undef = v) (hd : act.defers = []) (hb : Vb w g a b c) (hr : Rb w k x y z)
    (hR : R (.returned (.tuple #[.agg #[.bool a.s, .slice a.no a.nn a.nc, .slice a.eo a.en a.ec, .bool b.s, .slice b.no b.nn b.nc, .slice b.eo b.en b.ec, .bool c.s, .slice c.no c.nn c.nc, .slice c.eo c.en c.ec], .agg #[x, y, z], v])) w) : bodyPost Try.prog fn R .ret act w := by
  refine bodyPost_ret (v := .tuple #[.agg #[.bool a.s, .slice a.no a.nn a.nc, .slice a.eo a.en a.ec, .bool b.s, .slice b.no b.nn b.nc, .slice b.eo b.en b.ec, .bool c.s, .slice c.no c.nn c.nc, .slice c.eo c.en c.ec], .agg #[x, y, z], v]) ?_ hd hR
  rw [results_cct h, hp, hq, ht]
  simp [asAddr, run_loadVar_row _ g _ 26 _ _ _ hb.at_ Try.underlying26 rfl sizeVec, run_loadVar_row _ k _ 24 _ _ _ hr.at_ Try.underlying24 rfl sizeRat]
/-- Is there a length; the direction's numbers; the length. -/
def uok (n : Rat) : Bool := qsq n && decide (qsqrt n ≠ 0)
def uv (n x : Rat) : Rat := if uok n then 1 / qsqrt n * x else 0
def ul (n : Rat) : Rat := if uok n then qsqrt n else 0
/-- What a call of Unit leaves. -/
def Gu (w : World) (K : Nat) (p q r l : Rat) (ok : Bool) (e : Ending) (w' : World) : Prop :=
  ∃ a b c d : RP, e = .returned (.tuple #[.agg #[.bool a.s, .slice a.no a.nn a.nc, .slice a.eo a.en a.ec, .bool b.s, .slice b.no b.nn b.nc, .slice b.eo b.en b.ec, .bool c.s, .slice c.no c.nn c.nc, .slice c.eo c.en c.ec], .agg #[.bool d.s, .slice d.no d.nn d.nc, .slice d.eo d.en d.ec], .bool ok]) ∧ Cv w' a b c p q r K ∧ Cp w' d l K ∧ Below w.heap.size w w'
/-- A Vec and a Rat are stored. -/
def putU (u : World) (g k : Nat) (p q r d : RP) : World := (((putV u g p q r).setCell ⟨k, 0, none⟩ (.bool d.s)).setCell ⟨k, 1, none⟩ (.slice d.no d.nn d.nc)).setCell ⟨k, 2, none⟩ (.slice d.eo d.en d.ec)
theorem ret_storeU {fn : Func} {t1 t2 t3 : Tmp} {act : Act} {w u : World} {g k K : Nat} {a b c p q r d e : RP} {q1 q2 q3 l : Rat} {ok : Bool} (h : fn.results = #[.cell t1 26, .cell t2 24, .tmp t3]) (hp : act.tmps.getD t1 undef = .pointer (some ⟨g, 0, none⟩)) (hq : act.tmps.getD t2 undef = .pointer (some ⟨k, 0, none⟩)) (ht : act.tmps.getD t3 undef = .bool ok) (hd : act.defers = [])
    (hb : Vb u g a b c) (hr : Rb u k (.bool e.s) (.slice e.no e.nn e.nc) (.slice e.eo e.en e.ec)) (hne : g ≠ k) (hg : w.heap.size ≤ g) (hk : w.heap.size ≤ k) (cv : Cv u p q r q1 q2 q3 K) (cl : Cp u d l K) (h5 : Below w.heap.size w u) :
    bodyPost Try.prog fn (Gu w K q1 q2 q3 l ok) .ret act (putU u g k p q r d) := by
  have f1 := putV.fr g u p q r
  have hr1 : Rb (putV u g p q r) k (.bool e.s) (.slice e.no e.nn e.nc) (.slice e.eo e.en e.ec) := hr.keep (f1.block k (fun e => hne e.symm))
  have f2 := Rb.putFr k (putV u g p q r) (.bool d.s) (.slice d.no d.nn d.nc) (.slice d.eo d.en d.ec)
  have hb2 : Vb (putU u g k p q r d) g p q r := (hb.put p q r).keep (f2.block g hne)
  have hr2 : Rb (putU u g k p q r d) k (.bool d.s) (.slice d.no d.nn d.nc) (.slice d.eo d.en d.ec) := hr1.put _ _ _
  have cv1 := cv.storeV hb f1
  have cl1 := cl.storeV hb f1
  exact ret_vrb h hp hq ht hd hb2 hr2 ⟨p, q, r, d, rfl, ⟨cv1.x.store hr1 f2, cv1.y.store hr1 f2, cv1.z.store hr1 f2⟩, cl1.store hr1 f2, (h5.trans (f1.below hg)).trans (f2.below hk)⟩

/-- All blocks but g stay; it is a Vec. -/
structure BX (g : Nat) (w u : World) : Prop where
  os : u.os = w.os
  tape : u.tape = w.tape
  output : u.output = w.output
  size : w.heap.size ≤ u.heap.size
  block : ∀ k, k < w.heap.size → k ≠ g → u.heap[k]? = w.heap[k]?
  lt : g < w.heap.size
  vec : ∃ a b c, Vb u g a b c
section
variable {g : Nat} {w u u' : World} {a b c : RP}
theorem BX.start (h : Vb w g a b c) : BX g w { w with drawn := w.drawn + 1 } := ⟨rfl, rfl, rfl, Nat.le_refl _, fun _ _ _ => rfl, h.lt, a, b, c, ⟨h.at_⟩⟩
theorem BX.trans (h : BX g w u) (hb : Below w.heap.size u u') : BX g w u' := by
  obtain ⟨a, b, c, hv⟩ := h.vec
  exact ⟨hb.os.trans h.os, hb.tape.trans h.tape, hb.output.trans h.output, Nat.le_trans h.size hb.size, fun k hk hne => (hb.block k hk).trans (h.block k hk hne), h.lt, a, b, c, hv.keep (hb.block g h.lt)⟩
theorem BX.store (h : BX g w u) (hf : Fr g u u') (hv : Vb u' g a b c) : BX g w u' :=
  ⟨hf.os.trans h.os, hf.tape.trans h.tape, hf.output.trans h.output, by rw [hf.size]; exact h.size, fun k hk hne => (hf.block k hne).trans (h.block k hk hne), h.lt, a, b, c, hv⟩
theorem BX.below {N : Nat} (h : BX g w u) (hN : N ≤ g) : Below N w u := ⟨h.os, h.tape, h.output, h.size, fun k hk => h.block k (by have := h.lt; omega) (by omega)⟩
theorem Sl.bx {ao : Option Addr} {n cap : Nat} {xs : List Nat} (h : Sl w.heap.size w ao n cap xs) (hv : Vb w g a b c) (hx : BX g w u) : Sl u.heap.size u ao n cap xs := by
  refine ⟨h.len, h.le, h.lim, fun h0 => ?_, h.nilc⟩
  obtain ⟨k, o, e1, e2, e3⟩ := h.there h0
  have hne : k ≠ g := by
    intro he
    subst he
    have hc := e3 0 h0
    rw [Nat.add_zero, cell_of_row w k o _ _ _ hv.at_] at hc
    have hm := Array.mem_of_getElem? hc
    simp at hm
  exact ⟨k, o, e1, Nat.lt_of_lt_of_le e2 hx.size, fun i hi => (World.cell?_of_block (w := w) (a := ⟨k, o + i, none⟩) (hx.block k e2 hne)).trans (e3 i hi)⟩
theorem Qn.bx {s : Bool} {no : Option Addr} {nn nc : Nat} {eo : Option Addr} {en ec : Nat} {q : Rat} {K : Nat} (h : Qn w s no nn nc eo en ec q K) (hv : Vb w g a b c) (hx : BX g w u) : Qn u s no nn nc eo en ec q K := by
  obtain ⟨xs, ys, h1, h2, h3⟩ := h.there
  exact ⟨⟨xs, ys, h1.bx hv hx, h2.bx hv hx, h3⟩, h.ln, h.ld⟩
theorem Cq.bx {s : Bool} {no : Option Addr} {nn nc : Nat} {eo : Option Addr} {en ec : Nat} {q : Rat} {K : Nat} (h : Cq w s no nn nc eo en ec q K) (hv : Vb w g a b c) (hx : BX g w u) : Cq u s no nn nc eo en ec q K := ⟨h.sgn, h.num.bx hv hx, h.den.bx hv hx, h.ln, h.ld⟩
theorem Qv.bx {x y z : RP} {p q r : Rat} {K : Nat} (h : Qv w x y z p q r K) (hv : Vb w g a b c) (hx : BX g w u) : Qv u x y z p q r K := ⟨h.x.bx hv hx, h.y.bx hv hx, h.z.bx hv hx⟩
/-- A store of a Vec into block g. -/
def StV (g : Nat) (u u' : World) : Prop := (∃ a b c, Vb u g a b c) ∧ Fr g u u'
def LastsV (g : Nat) (φ : Value → World → Prop) : Prop := ∀ v u u', StV g u u' → φ v u → φ v u'
theorem VV.lastsV (g : Nat) (x : Value) : LastsV g (VV x) := fun _ _ _ _ h => h
theorem VC.lastsV (g : Nat) (q : Rat) (K : Nat) : LastsV g (VC q K) := fun _ _ _ ⟨⟨_, _, _, hb⟩, hf⟩ ⟨s, no, nn, nc, eo, en, ec, h1, h2⟩ => ⟨s, no, nn, nc, eo, en, ec, h1, h2.storeV hb hf⟩
theorem VG.lastsV (g : Nat) (p q r : Rat) (K : Nat) : LastsV g (VG p q r K) := fun _ _ _ ⟨⟨_, _, _, hb⟩, hf⟩ ⟨a, b, c, h1, h2⟩ => ⟨a, b, c, h1, h2.storeV hb hf⟩
/-- Block g holds the Vec v. -/
def VSg (g : Nat) : Value → World → Prop := fun v u => ∃ a b c : RP, v = .agg #[.bool a.s, .slice a.no a.nn a.nc, .slice a.eo a.en a.ec, .bool b.s, .slice b.no b.nn b.nc, .slice b.eo b.en b.ec, .bool c.s, .slice c.no c.nn c.nc, .slice c.eo c.en c.ec] ∧ Vb u g a b c
theorem VSg.lasts (g : Nat) : Lasts (VSg g) := fun _ _ _ hb ⟨a, b, c, h1, h2⟩ => ⟨a, b, c, h1, h2.later hb⟩
def Grv (g m i : Nat) (u u' : World) : Prop := match Nat.beq i m with
  | true => StV g u u'
  | false => Below u.heap.size u u'
def LstV (g m : Nat) : Nat → List (Value → World → Prop) → Prop
  | _, [] => True
  | k, φ :: l => (k ≠ m → LastsV g φ) ∧ LstV g m (k + 1) l
theorem LstV.get {m : Nat} : ∀ {l : List (Value → World → Prop)} {k : Nat}, LstV g m k l → ∀ i φ, l[i]? = some φ → k + i ≠ m → LastsV g φ
  | [], _, _, i, φ, h, _ => by simp at h
  | _ :: _, k, hl, 0, φ, h, hm => by
    simp at h
    subst h
    exact hl.1 hm
  | _ :: l, k, hl, i + 1, φ, h, hm => LstV.get (k := k + 1) hl.2 i φ (by simpa using h) (by omega)
theorem Sp.lastsV {l : List (Value → World → Prop)} {m : Nat} (hl : Lst l) (hs : LstV g m 0 l) : ∀ i k v u u', k ≠ i → Grv g m i u u' → Sp l k v u → Sp l k v u' := by
  intro i k v u u' hki hg h
  unfold Grv at hg
  cases hb : Nat.beq i m with
  | false =>
    rw [hb] at hg
    exact Sp.lasts hl k v u u' hg h
  | true =>
    rw [hb] at hg
    have him : i = m := Nat.eq_of_beq_eq_true hb
    unfold Sp at *
    rw [List.getD_eq_getElem?_getD] at *
    cases hk : l[k]? with
    | none => trivial
    | some φ =>
      rw [hk] at h
      exact hs.get k φ hk (by omega) v u u' hg h
end
set_option maxHeartbeats 8000000 in
theorem vunit5 {w : World} {a1 a2 a3 : RP} {qa1 qa2 qa3 : Rat} {K : Nat} (ha0 : Qv w a1 a2 a3 qa1 qa2 qa3 K) (K1 : 1 ≤ K) (hK : 7 * K + 4 ≤ 17179869184) :
    Calls Try.prog 25 #[.agg #[.bool a1.s, .slice a1.no a1.nn a1.nc, .slice a1.eo a1.en a1.ec, .bool a2.s, .slice a2.no a2.nn a2.nc, .slice a2.eo a2.en a2.ec, .bool a3.s, .slice a3.no a3.nn a3.nc, .slice a3.eo a3.en a3.ec]] w (Gu w (7 * K + 3) (uv (qa1 * qa1 + qa2 * qa2 + qa3 * qa3) qa1) (uv (qa1 * qa1 + qa2 * qa2 + qa3 * qa3) qa2) (uv (qa1 * qa1 + qa2 * qa2 + qa3 * qa3) qa3) (ul (qa1 * qa1 + qa2 * qa2 + qa3 * qa3)) (uok (qa1 * qa1 + qa2 * qa2 + qa3 * qa3))) := by
  obtain ⟨w0, hw0, x0, x1, x2, b0⟩ := bx_Vvr w a1 a2 a3
  have ha := ha0.later b0
  clear ha0
  obtain ⟨g0, hg0⟩ : ∃ g0, g0 = w.heap.size := ⟨_, rfl⟩
  obtain ⟨g1, hg1⟩ : ∃ g1, g1 = w.heap.size + 1 := ⟨_, rfl⟩
  obtain ⟨g2, hg2⟩ : ∃ g2, g2 = w.heap.size + 2 := ⟨_, rfl⟩
  have HG : Hid (w.heap.size ≤ g1 ∧ w.heap.size ≤ g2 ∧ g0 ≠ g1 ∧ g0 ≠ g2 ∧ g1 ≠ g2) := by show _ ∧ _; omega
  obtain ⟨c0, c1, c2⟩ := x0.c0
  obtain ⟨c3, c4, c5⟩ := x0.c1
  obtain ⟨c6, c7, c8⟩ := x0.c2
  rw [hw0] at c0 c1 c2 c3 c4 c5 c6 c7 c8
  go_enter Try.func25, Try.ntmps25
  go_wp2_with fail
  rw [← hw0, ← hg2, ← hg1, ← hg0]
  rw [← hg0] at x0
  rw [← hg1] at x1
  rw [← hg2] at x2
  clear hw0 hg0 hg1 hg2 c0 c1 c2 c3 c4 c5 c6 c7 c8
  refine (vdot5 ha ha K1 K1 (by omega)).mono ?_
  rintro e w1 ⟨s1, no1, nn1, nc1, eo1, en1, ec1, rfl, cd, lb⟩
  generalize qa1 * qa1 + qa2 * qa2 + qa3 * qa3 = n at *
  replace ha := ha.later lb
  replace x0 := x0.later lb
  replace x1 := x1.later lb
  replace x2 := x2.later lb
  replace b0 := b0.trans (lb.mono b0.size)
  clear lb
  go_wp2_with fail
  refine (sqrt3_any w1 s1 no1 nn1 nc1 eo1 en1 ec1 _ n cd.rd (by omega) (by omega)).mono ?_
  rintro e w2 ⟨s2, no2, nn2, nc2, eo2, en2, ec2, rfl, cl, lb⟩
  have HG5 : Hid (w2.heap.size ≠ g1) := Nat.ne_of_gt (x1.later lb).lt
  have lc : Below w2.heap.size w2 (w2.alloc (.cells #[.bool s2, .slice no2 nn2 nc2, .slice eo2 en2 ec2] 24)) := (Below.refl _ _).alloc (Nat.le_refl _) _
  have y5 : Rb (w2.alloc (.cells #[.bool s2, .slice no2 nn2 nc2, .slice eo2 en2 ec2] 24)) w2.heap.size (.bool s2) (.slice no2 nn2 nc2) (.slice eo2 en2 ec2) := ⟨heap_alloc_new _ _⟩
  replace cl := (cl.later lc).mono (K' := 3 * (K + K) + 2) (by omega)
  replace ha := (ha.later lb).later lc
  replace x0 := (x0.later lb).later lc
  replace x1 := (x1.later lb).later lc
  replace x2 := (x2.later lb).later lc
  replace b0 := b0.trans (lb.mono b0.size)
  replace b0 := b0.trans (lc.mono b0.size)
  clear lb lc cd
  obtain ⟨w3, hw3⟩ : ∃ w3, w3 = w2.alloc (.cells #[.bool s2, .slice no2 nn2 nc2, .slice eo2 en2 ec2] 24) := ⟨_, rfl⟩
  cases hq : qsq n
  · have HU : Hid (uok n = false) := by show uok n = false; unfold uok; rw [hq]; rfl
    have HV : Hid (∀ x, uv n x = 0) := fun x => by unfold uv; rw [HU.out]; rfl
    have HL : Hid (ul n = 0) := by show ul n = 0; unfold ul; rw [HU.out]; rfl
    clear hq
    rw [← hw3] at y5 cl ha x0 x1 x2 b0
    go_wp2_with fail
    rw [← hw3]
    generalize w2.heap.size = g5 at *
    clear hw3
    refine (vzero5 (w := w3)).mono ?_
    rintro e w4 ⟨za, zb, zc, rfl, cz, lb⟩
    replace x1 := x1.later lb
    replace x2 := x2.later lb
    replace b0 := b0.trans (lb.mono b0.size)
    clear lb
    go_wp2_with fail
    refine (zero3_any w4).mono ?_
    rintro e w5 ⟨s9, no9, nn9, nc9, eo9, en9, ec9, rfl, c9, lb⟩
    replace x1 := x1.later lb
    replace x2 := x2.later lb
    replace cz := cz.later lb
    replace b0 := b0.trans (lb.mono b0.size)
    clear lb
    obtain ⟨c0, c1, c2⟩ := x1.c0
    obtain ⟨c3, c4, c5⟩ := x1.c1
    obtain ⟨c6, c7, c8⟩ := x1.c2
    have f0 := x1.free 0
    have f1 := x1.free 1
    have f2 := x1.free 2
    have f3 := x1.free 3
    have f4 := x1.free 4
    have f5 := x1.free 5
    have f6 := x1.free 6
    have f7 := x1.free 7
    have f8 := x1.free 8
    obtain ⟨d0, d1, d2⟩ := x2.cells
    have e0 := x2.free 0
    have e1 := x2.free 1
    have e2 := x2.free 2
    have n12 : ¬ g1 = g2 := HG.out.2.2.2.2
    have n21 : ¬ g2 = g1 := fun e => n12 e.symm
    go_wp2
    refine ret_storeU (e := zRP) (ok := uok n) (p := za) (q := zb) (r := zc) (d := ⟨s9, no9, nn9, nc9, eo9, en9, ec9⟩) rfl rfl rfl ?_ rfl x1 x2 HG.out.2.2.2.2 HG.out.1 HG.out.2.1 ?_ ?_ b0
    · rw [HU.out]; rfl
    · rw [HV.out, HV.out, HV.out]; exact cz.mono (by omega)
    · rw [HL.out]; exact c9.mono (by omega)
  · rw [← hw3] at y5 cl ha x0 x1 x2 b0
    obtain ⟨m0, m1, m2⟩ := y5.cells
    rw [hw3] at m0 m1 m2
    have HQ : Hid (qsq n = true) := hq
    clear hq
    go_wp2_with fail
    rw [← hw3]
    clear m0 m1 m2
    generalize w2.heap.size = g5 at *
    clear hw3
    refine (sign3_any w3 s2 no2 nn2 nc2 eo2 en2 ec2 _ (qsqrt n) cl.rd (by omega)).mono ?_
    rintro e w4 ⟨rfl, lb⟩
    replace y5 := y5.later lb
    replace cl := cl.later lb
    replace ha := ha.later lb
    replace x0 := x0.later lb
    replace x1 := x1.later lb
    replace x2 := x2.later lb
    replace b0 := b0.trans (lb.mono b0.size)
    clear lb
    obtain ⟨m0, m1, m2⟩ := y5.cells
    by_cases hl : qsqrt n = 0
    · have HU : Hid (uok n = false) := by show uok n = false; unfold uok; rw [HQ.out, hl]; rfl
      have HV : Hid (∀ x, uv n x = 0) := fun x => by unfold uv; rw [HU.out]; rfl
      have HL : Hid (ul n = 0) := by show ul n = 0; unfold ul; rw [HU.out]; rfl
      have hsg : qsgn (qsqrt n) = 0 := by rw [hl]; rfl
      clear m0 m1 m2 hl
      rw [hsg]
      go_wp2_with fail
      refine (vzero5 (w := w4)).mono ?_
      rintro e w6 ⟨za, zb, zc, rfl, cz, lb⟩
      replace x1 := x1.later lb
      replace x2 := x2.later lb
      replace b0 := b0.trans (lb.mono b0.size)
      clear lb
      go_wp2_with fail
      refine (zero3_any w6).mono ?_
      rintro e w7 ⟨s9, no9, nn9, nc9, eo9, en9, ec9, rfl, c9, lb⟩
      replace x1 := x1.later lb
      replace x2 := x2.later lb
      replace cz := cz.later lb
      replace b0 := b0.trans (lb.mono b0.size)
      clear lb
      obtain ⟨c0, c1, c2⟩ := x1.c0
      obtain ⟨c3, c4, c5⟩ := x1.c1
      obtain ⟨c6, c7, c8⟩ := x1.c2
      have f0 := x1.free 0
      have f1 := x1.free 1
      have f2 := x1.free 2
      have f3 := x1.free 3
      have f4 := x1.free 4
      have f5 := x1.free 5
      have f6 := x1.free 6
      have f7 := x1.free 7
      have f8 := x1.free 8
      obtain ⟨d0, d1, d2⟩ := x2.cells
      have e0 := x2.free 0
      have e1 := x2.free 1
      have e2 := x2.free 2
      have n12 : ¬ g1 = g2 := HG.out.2.2.2.2
      have n21 : ¬ g2 = g1 := fun e => n12 e.symm
      go_wp2
      refine ret_storeU (e := zRP) (ok := uok n) (p := za) (q := zb) (r := zc) (d := ⟨s9, no9, nn9, nc9, eo9, en9, ec9⟩) rfl rfl rfl ?_ rfl x1 x2 HG.out.2.2.2.2 HG.out.1 HG.out.2.1 ?_ ?_ b0
      · rw [HU.out]; rfl
      · rw [HV.out, HV.out, HV.out]; exact cz.mono (by omega)
      · rw [HL.out]; exact c9.mono (by omega)
    · have HU : Hid (uok n = true) := by show uok n = true; unfold uok; rw [HQ.out]; simp [hl]
      have HV : Hid (∀ x, uv n x = 1 / qsqrt n * x) := fun x => by unfold uv; rw [HU.out]; rfl
      have HL : Hid (ul n = qsqrt n) := by show ul n = _; unfold ul; rw [HU.out]; rfl
      have hsg : ¬ qsgn (qsqrt n) = 0 := fun e => hl (qsgn_zero.1 e)
      clear m0 m1 m2 hl
      generalize qsgn (qsqrt n) = sg at *
      go_wp2
      have HA : Hid (∀ u, BX g1 w4 u → Qv u a1 a2 a3 qa1 qa2 qa3 K) := fun u hx => ha.bx x1 hx
      have CL : Hid (∀ u, BX g1 w4 u → Cq u s2 no2 nn2 nc2 eo2 en2 ec2 (qsqrt n) (3 * (K + K) + 2)) := fun u hx => cl.bx x1 hx
      have X0 : Hid (∀ u, BX g1 w4 u → Vb u g0 a1 a2 a3) := fun u hx => x0.keep (hx.block g0 x0.lt HG.out.2.2.1)
      have Y5 : Hid (∀ u, BX g1 w4 u → Rb u g5 (.bool s2) (.slice no2 nn2 nc2) (.slice eo2 en2 ec2)) := fun u hx => y5.keep (hx.block g5 y5.lt HG5.out)
      have X2 : Hid (∀ u, BX g1 w4 u → Rb u g2 (.bool false) (.slice none 0 0) (.slice none 0 0)) := fun u hx => x2.keep (hx.block g2 x2.lt (fun e => HG.out.2.2.2.2 e.symm))
      have HLst : Lst [VC (1) (1), VV (.agg #[.bool s2, .slice no2 nn2 nc2, .slice eo2 en2 ec2]), VC (1 / qsqrt n) (1 + (3 * (K + K) + 2)), VV (.agg #[.bool a1.s, .slice a1.no a1.nn a1.nc, .slice a1.eo a1.en a1.ec, .bool a2.s, .slice a2.no a2.nn a2.nc, .slice a2.eo a2.en a2.ec, .bool a3.s, .slice a3.no a3.nn a3.nc, .slice a3.eo a3.en a3.ec]), VG (1 / qsqrt n * qa1) (1 / qsqrt n * qa2) (1 / qsqrt n * qa3) (1 + (3 * (K + K) + 2) + (K)), VV (.agg #[.bool s2, .slice no2 nn2 nc2, .slice eo2 en2 ec2]), VSg g1] := ⟨VC.lasts _ _, VV.lasts _, VC.lasts _ _, VV.lasts _, VG.lasts _ _ _ _, VV.lasts _, VSg.lasts _, trivial⟩
      have HLsS : LstV g1 6 0 [VC (1) (1), VV (.agg #[.bool s2, .slice no2 nn2 nc2, .slice eo2 en2 ec2]), VC (1 / qsqrt n) (1 + (3 * (K + K) + 2)), VV (.agg #[.bool a1.s, .slice a1.no a1.nn a1.nc, .slice a1.eo a1.en a1.ec, .bool a2.s, .slice a2.no a2.nn a2.nc, .slice a2.eo a2.en a2.ec, .bool a3.s, .slice a3.no a3.nn a3.nc, .slice a3.eo a3.en a3.ec]), VG (1 / qsqrt n * qa1) (1 / qsqrt n * qa2) (1 / qsqrt n * qa3) (1 + (3 * (K + K) + 2) + (K)), VV (.agg #[.bool s2, .slice no2 nn2 nc2, .slice eo2 en2 ec2]), VSg g1] := ⟨fun _ => VC.lastsV _ _ _, fun _ => VV.lastsV _ _, fun _ => VC.lastsV _ _ _, fun _ => VV.lastsV _ _, fun _ => VG.lastsV _ _ _ _ _, fun _ => VV.lastsV _ _, fun h => absurd rfl h, trivial⟩
      refine wp_region_stores 7 29 [([], []), ([], [5]), ([(0, 23), (1, 24)], []), ([], [1]), ([(2, 25), (3, 26)], []), ([], [5]), ([(4, 27)], [2])]
        (fun u => BX g1 w4 u) (Grv g1 6)
        (Sp [VC (1) (1), VV (.agg #[.bool s2, .slice no2 nn2 nc2, .slice eo2 en2 ec2]), VC (1 / qsqrt n) (1 + (3 * (K + K) + 2)), VV (.agg #[.bool a1.s, .slice a1.no a1.nn a1.nc, .slice a1.eo a1.en a1.ec, .bool a2.s, .slice a2.no a2.nn a2.nc, .slice a2.eo a2.en a2.ec, .bool a3.s, .slice a3.no a3.nn a3.nc, .slice a3.eo a3.en a3.ec]), VG (1 / qsqrt n * qa1) (1 / qsqrt n * qa2) (1 / qsqrt n * qa3) (1 + (3 * (K + K) + 2) + (K)), VV (.agg #[.bool s2, .slice no2 nn2 nc2, .slice eo2 en2 ec2]), VSg g1])
        (by kernel_rfl) rfl (by kernel_rfl) (BX.start x1) (fun i k v u u' hki _ hg hs => Sp.lastsV HLst HLsS i k v u u' hki hg hs) ?_ ?_
      · clear HLst HLsS
        refine ⟨.inl ⟨by simp, fun ρ u hC hc hf hd ho => ?_⟩, .inl ⟨by simp, fun ρ u hC hc hf hd ho => ?_⟩, .inl ⟨by simp, fun ρ u hC hc hf hd ho => ?_⟩, .inl ⟨by simp, fun ρ u hC hc hf hd ho => ?_⟩, .inl ⟨by simp, fun ρ u hC hc hf hd ho => ?_⟩, .inl ⟨by simp, fun ρ u hC hc hf hd ho => ?_⟩, .inl ⟨by simp, fun ρ u hC hc hf hd ho => ?_⟩, trivial⟩
        · refine Goes.call 31 #[] (by go_simp) ?_
          refine Calls.mono (one3_any u) ?_
          rintro e u' ⟨s1, no1, nn1, nc1, eo1, en1, ec1, rfl, cq, lb⟩
          exact ⟨_, rfl, hC.trans (lb.mono hC.size), lb, ⟨s1, no1, nn1, nc1, eo1, en1, ec1, rfl, cq⟩⟩
        · have e5 : ρ (.tmp 5) = .pointer (some ⟨g5, 0, none⟩) := ho 5 (by simp)
          obtain ⟨c0, c1, c2⟩ := (Y5.out u hC).cells
          refine Goes.pure (.agg #[.bool s2, .slice no2 nn2 nc2, .slice eo2 en2 ec2]) ?_ ⟨hC, Below.refl _ _, rfl⟩
          unfold Goes
          go_simp
        · obtain ⟨s23, no23, nn23, nc23, eo23, en23, ec23, e23, k23⟩ : VC (1) (1) (ρ (.tmp 23)) u := hd (0, 23) (by simp)
          have e24 : ρ (.tmp 24) = .agg #[.bool s2, .slice no2 nn2 nc2, .slice eo2 en2 ec2] := hd (1, 24) (by simp)
          refine Goes.call 51 #[.agg #[.bool s23, .slice no23 nn23 nc23, .slice eo23 en23 ec23], .agg #[.bool s2, .slice no2 nn2 nc2, .slice eo2 en2 ec2]] (by go_simp) ?_
          refine Calls.mono (over3_any (a := ⟨s23, no23, nn23, nc23, eo23, en23, ec23⟩) (b := ⟨s2, no2, nn2, nc2, eo2, en2, ec2⟩) k23.rd (CL.out u hC).rd (by omega) (by omega) (by omega)) ?_
          rintro e u' ⟨s1, no1, nn1, nc1, eo1, en1, ec1, rfl, cq, lb⟩
          exact ⟨_, rfl, hC.trans (lb.mono hC.size), lb, ⟨s1, no1, nn1, nc1, eo1, en1, ec1, rfl, cq⟩⟩
        · have e1 : ρ (.tmp 1) = .pointer (some ⟨g0, 0, none⟩) := ho 1 (by simp)
          obtain ⟨c0, c1, c2⟩ := (X0.out u hC).c0
          obtain ⟨c3, c4, c5⟩ := (X0.out u hC).c1
          obtain ⟨c6, c7, c8⟩ := (X0.out u hC).c2
          refine Goes.pure (.agg #[.bool a1.s, .slice a1.no a1.nn a1.nc, .slice a1.eo a1.en a1.ec, .bool a2.s, .slice a2.no a2.nn a2.nc, .slice a2.eo a2.en a2.ec, .bool a3.s, .slice a3.no a3.nn a3.nc, .slice a3.eo a3.en a3.ec]) ?_ ⟨hC, Below.refl _ _, rfl⟩
          unfold Goes
          go_simp
        · obtain ⟨s25, no25, nn25, nc25, eo25, en25, ec25, e25, k25⟩ : VC (1 / qsqrt n) (1 + (3 * (K + K) + 2)) (ρ (.tmp 25)) u := hd (2, 25) (by simp)
          have e26 : ρ (.tmp 26) = .agg #[.bool a1.s, .slice a1.no a1.nn a1.nc, .slice a1.eo a1.en a1.ec, .bool a2.s, .slice a2.no a2.nn a2.nc, .slice a2.eo a2.en a2.ec, .bool a3.s, .slice a3.no a3.nn a3.nc, .slice a3.eo a3.en a3.ec] := hd (3, 26) (by simp)
          refine Goes.call 15 #[.agg #[.bool s25, .slice no25 nn25 nc25, .slice eo25 en25 ec25], .agg #[.bool a1.s, .slice a1.no a1.nn a1.nc, .slice a1.eo a1.en a1.ec, .bool a2.s, .slice a2.no a2.nn a2.nc, .slice a2.eo a2.en a2.ec, .bool a3.s, .slice a3.no a3.nn a3.nc, .slice a3.eo a3.en a3.ec]] (by go_simp) ?_
          refine Calls.mono (vscale5 (k := ⟨s25, no25, nn25, nc25, eo25, en25, ec25⟩) k25.rd (HA.out u hC) (by omega) (by omega)) ?_
          rintro e u' ⟨ra, rb, rc, rfl, cv, lb⟩
          exact ⟨_, rfl, hC.trans (lb.mono hC.size), lb, ⟨ra, rb, rc, rfl, cv⟩⟩
        · have e5 : ρ (.tmp 5) = .pointer (some ⟨g5, 0, none⟩) := ho 5 (by simp)
          obtain ⟨c0, c1, c2⟩ := (Y5.out u hC).cells
          refine Goes.pure (.agg #[.bool s2, .slice no2 nn2 nc2, .slice eo2 en2 ec2]) ?_ ⟨hC, Below.refl _ _, rfl⟩
          unfold Goes
          go_simp
        · obtain ⟨ra27, rb27, rc27, e27, k27⟩ : VG (1 / qsqrt n * qa1) (1 / qsqrt n * qa2) (1 / qsqrt n * qa3) (1 + (3 * (K + K) + 2) + (K)) (ρ (.tmp 27)) u := hd (4, 27) (by simp)
          have e2 : ρ (.tmp 2) = .pointer (some ⟨g1, 0, none⟩) := ho 2 (by simp)
          obtain ⟨va, vb, vc, hvv⟩ := hC.vec
          obtain ⟨c0, c1, c2⟩ := hvv.c0
          obtain ⟨c3, c4, c5⟩ := hvv.c1
          obtain ⟨c6, c7, c8⟩ := hvv.c2
          have f0 := hvv.free 0
          have f1 := hvv.free 1
          have f2 := hvv.free 2
          have f3 := hvv.free 3
          have f4 := hvv.free 4
          have f5 := hvv.free 5
          have f6 := hvv.free 6
          have f7 := hvv.free 7
          have f8 := hvv.free 8
          have fr := putV.fr g1 u ra27 rb27 rc27
          have bb := hvv.put ra27 rb27 rc27
          unfold Goes
          go_simp
          exact ⟨hC.store fr bb, ⟨⟨va, vb, vc, hvv⟩, fr⟩, ⟨ra27, rb27, rc27, e27, bb⟩⟩
      · intro vs u hC hv hwd
        obtain ⟨ra, rb, rc, eR, cv⟩ : VG (1 / qsqrt n * qa1) (1 / qsqrt n * qa2) (1 / qsqrt n * qa3) (1 + (3 * (K + K) + 2) + (K)) (vs 4) u := hv 4 (by omega)
        have eL : vs 5 = .agg #[.bool s2, .slice no2 nn2 nc2, .slice eo2 en2 ec2] := hv 5 (by omega)
        have eS : VSg g1 (vs 4) u := by
          have h6 : VSg g1 (vs 6) u := hv 6 (by omega)
          rw [hwd 6 4 (by omega) rfl] at h6
          exact h6
        obtain ⟨va, vb, vc, eV, hvv⟩ := eS
        have hvr : Vb u g1 ra rb rc := ⟨by rw [hvv.at_, Value.agg.inj (eV.symm.trans eR)]⟩
        have xr := X2.out u hC
        obtain ⟨d0, d1, d2⟩ := xr.cells
        have p0 := xr.free 0
        have p1 := xr.free 1
        have p2 := xr.free 2
        have clu := CL.out u hC
        have f2 := Rb.putFr g2 u (.bool s2) (.slice no2 nn2 nc2) (.slice eo2 en2 ec2)
        have B6 := (b0.trans (hC.below HG.out.1)).trans (f2.below HG.out.2.1)
        have xz : Rb u g2 (.bool zRP.s) (.slice zRP.no zRP.nn zRP.nc) (.slice zRP.eo zRP.en zRP.ec) := xr
        clear hv hwd hC eV hvv
        simp only [puts, List.take, List.drop, Act.put, List.setIfInBounds_toArray, List.set_cons_succ, List.set_cons_zero, Nat.reduceAdd, eR, eL]
        go_wp2
        refine ret_vrb rfl rfl rfl rfl rfl (hvr.keep (f2.block g1 HG.out.2.2.2.2)) (xr.put _ _ _) ⟨ra, rb, rc, ⟨s2, no2, nn2, nc2, eo2, en2, ec2⟩, ?_, ?_, ?_, B6⟩
        · rw [HU.out]; rfl
        · rw [HV.out, HV.out, HV.out]
          exact ⟨(cv.x.store xz f2).mono (by omega), (cv.y.store xz f2).mono (by omega), (cv.z.store xz f2).mono (by omega)⟩
        · rw [HL.out]; exact (clu.store xz f2).mono (by omega)

end Go.Proofs.Ytmbemidacilakaa

/- How long numbers can be: by value. -/
namespace Go.Proofs.Ytmbemidacilakaa
open Go.RowKit M Kahn
set_option maxRecDepth 100000

/-- Numerator and denominator have at most K limbs. -/
def Bd (q : Rat) (K : Nat) : Prop := q.num.natAbs < Bp K ∧ q.den < Bp K
theorem Bd.one {q : Rat} {K : Nat} (h : Bd q K) : 1 ≤ K := by
  rcases Nat.eq_zero_or_pos K with rfl | hk
  · have h2 := h.2
    have := q.den_pos
    have h0 : Bp 0 = 1 := rfl
    omega
  · exact hk
theorem Qn.bdv {w : World} {s : Bool} {no : Option Addr} {nn nc : Nat} {eo : Option Addr} {en ec : Nat} {q : Rat} {K : Nat} (h : Qn w s no nn nc eo en ec q K) (hK : 1 ≤ K) : Bd q K := by
  obtain ⟨xs, ys, h1, h2, h3⟩ := h.there
  rw [← h3]
  exact num_bd (h1.bd h.ln) (h2.bd h.ld) hK
theorem Bd.mono {q : Rat} {K L : Nat} (h : Bd q K) (hk : K ≤ L) : Bd q L := ⟨Nat.lt_of_lt_of_le h.1 (Bp_mono hk), Nat.lt_of_lt_of_le h.2 (Bp_mono hk)⟩
theorem Bd.mul {q p : Rat} {K L : Nat} (h : Bd q K) (h' : Bd p L) : Bd (q * p) (K + L) := by
  have m1 := Nat.mul_lt_mul'' h.1 h'.1
  have m2 := Nat.mul_lt_mul'' h.2 h'.2
  rw [← Bp_add] at m1 m2
  rw [← rq_self q, ← rq_self p, rq_mul]
  exact num_bd m1 m2 (by have := h.one; omega)
theorem Bd.add {q p : Rat} {K L : Nat} (h : Bd q K) (h' : Bd p L) : Bd (q + p) (K + L + 1) := by
  have m1 := Nat.mul_lt_mul'' h.1 h'.2
  have m2 := Nat.mul_lt_mul'' h'.1 h.2
  have m3 := Nat.mul_lt_mul'' h.2 h'.2
  rw [Nat.mul_comm (Bp L) (Bp K)] at m2
  rw [← Bp_add] at m1 m2 m3
  have hB := Bp_succ (K + L)
  have hp : 0 < Bp (K + L) := Bp_pos _
  have hs := rq_add_any (s := decide (q.num < 0)) (t := decide (p.num < 0)) (X := q.num.natAbs) (U := p.num.natAbs) q.den_nz p.den_nz (psg_pab _ _ (q.num.natAbs * p.den) (p.num.natAbs * q.den))
  rw [rq_self, rq_self] at hs
  rw [← hs]
  refine num_bd ?_ (by omega) (by omega)
  have : pab (decide (q.num < 0)) (decide (p.num < 0)) (q.num.natAbs * p.den) (p.num.natAbs * q.den) ≤ q.num.natAbs * p.den + p.num.natAbs * q.den := by unfold pab; split <;> (try split) <;> omega
  omega
theorem Bd.neg {q : Rat} {K : Nat} (h : Bd q K) : Bd (-q) K := by
  refine ⟨?_, h.2⟩
  rw [Rat.neg_num, Int.natAbs_neg]
  exact h.1
theorem Bd.sub {q p : Rat} {K L : Nat} (h : Bd q K) (h' : Bd p L) : Bd (q - p) (K + L + 1) := by
  rw [Rat.sub_eq_add_neg]
  exact h.add h'.neg
theorem Cq.tb {w : World} {s : Bool} {no : Option Addr} {nn nc : Nat} {eo : Option Addr} {en ec : Nat} {q : Rat} {K K' : Nat} (h : Cq w s no nn nc eo en ec q K) (hb : Bd q K') : Cq w s no nn nc eo en ec q K' := h.tight hb.1 hb.2
theorem Cv.tb {w : World} {a b c : RP} {p q r : Rat} {K K' : Nat} (h : Cv w a b c p q r K) (h1 : Bd p K') (h2 : Bd q K') (h3 : Bd r K') : Cv w a b c p q r K' := ⟨h.x.tb h1, h.y.tb h2, h.z.tb h3⟩
end Go.Proofs.Ytmbemidacilakaa
