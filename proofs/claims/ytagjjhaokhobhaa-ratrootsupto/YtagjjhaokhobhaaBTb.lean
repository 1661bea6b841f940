/- penumbralaw03.RatRoots: true. -/
import Derived.Test.YtagjjhaokhobhaaBT8
namespace Go.Proofs.Ytagjjhaokhobhaa
open Go.RowKit M Kahn

set_option maxRecDepth 100000 in
set_option maxHeartbeats 8000000 in
theorem roots_any (w : World) (s : Bool) (no : Option Addr) (nn nc : Nat) (eo : Option Addr) (en ec : Nat) (K : Nat) (qa : Rat) (ha0 : Qn w s no nn nc eo en ec qa K) (hK1 : 1 ≤ K) (hK : K ≤ 1048576) :
    Calls Try.prog 5 #[.agg #[.bool s, .slice no nn nc, .slice eo en ec]] w fun e w' => e = .returned (.bool true) ∧ Below w.heap.size w w' := by
  obtain ⟨w0, hw0, bx, B0⟩ := box0 w (.bool s) (.slice no nn nc) (.slice eo en ec)
  have ha := ha0.later B0
  clear ha0
  obtain ⟨g, hg⟩ : ∃ g, g = w.heap.size := ⟨_, rfl⟩
  rw [← hg] at bx
  skip
  obtain ⟨cbx0, cbx1, cbx2⟩ := bx.cells
  go_enter Try.func5, Try.ntmps5
  go_wp2_with fail
  rw [← hw0, ← hg]
  clear hw0 hg
  generalize hok : qsq qa = ok
  refine (ratSqrt_k ha hK1 (by omega)).mono ?_
  rintro e w1 ⟨s1, no1, nn1, nc1, eo1, en1, ec1, rfl, cq1, lb⟩
  rw [hok]
  replace ha := ha.later lb
  replace bx := bx.later lb
  have B1 := B0.trans (lb.mono B0.size)
  clear B0 lb
  have b3 : Rb (w1.alloc (.cells #[.bool s1, .slice no1 nn1 nc1, .slice eo1 en1 ec1] 24)) w1.heap.size (.bool s1) (.slice no1 nn1 nc1) (.slice eo1 en1 ec1) := ⟨heap_alloc_new _ _⟩
  have lb : Below w1.heap.size w1 (w1.alloc (.cells #[.bool s1, .slice no1 nn1 nc1, .slice eo1 en1 ec1] 24)) := (Below.refl _ _).alloc (Nat.le_refl _) _
  replace ha := ha.later lb
  replace cq1 := cq1.later lb
  replace bx := bx.later lb
  have B2 := B1.trans (lb.mono B1.size)
  clear B1 lb
  clear cbx0 cbx1 cbx2
  obtain ⟨cbx0, cbx1, cbx2⟩ := bx.cells
  go_wp2_with fail
  generalize w1.heap.size = g3 at *
  generalize w1.alloc (.cells #[.bool s1, .slice no1 nn1 nc1, .slice eo1 en1 ec1] 24) = w2 at *
  refine (sqrt3_any w2 s no nn nc eo en ec K qa ha hK1 (by omega)).mono ?_
  rintro e w3 ⟨s2, no2, nn2, nc2, eo2, en2, ec2, rfl, cq2, lb⟩
  rw [hok]
  replace ha := ha.later lb
  replace cq1 := cq1.later lb
  replace bx := bx.later lb
  replace b3 := b3.later lb
  have B3 := B2.trans (lb.mono B2.size)
  clear B2 lb
  have b5 : Rb (w3.alloc (.cells #[.bool s2, .slice no2 nn2 nc2, .slice eo2 en2 ec2] 24)) w3.heap.size (.bool s2) (.slice no2 nn2 nc2) (.slice eo2 en2 ec2) := ⟨heap_alloc_new _ _⟩
  have lb : Below w3.heap.size w3 (w3.alloc (.cells #[.bool s2, .slice no2 nn2 nc2, .slice eo2 en2 ec2] 24)) := (Below.refl _ _).alloc (Nat.le_refl _) _
  replace ha := ha.later lb
  replace cq1 := cq1.later lb
  replace cq2 := cq2.later lb
  replace bx := bx.later lb
  replace b3 := b3.later lb
  have B4 := B3.trans (lb.mono B3.size)
  clear B3 lb
  clear cbx0 cbx1 cbx2
  obtain ⟨cbx0, cbx1, cbx2⟩ := bx.cells
  go_wp2_with fail
  have hz : (w3.alloc (.cells #[.bool s2, .slice no2 nn2 nc2, .slice eo2 en2 ec2] 24)).heap.size = w3.heap.size + 1 := by simp
  generalize w3.heap.size = g5 at *
  generalize w3.alloc (.cells #[.bool s2, .slice no2 nn2 nc2, .slice eo2 en2 ec2] 24) = w4 at *
  have kl : VL [qa, qa] K (.slice (some ⟨w4.heap.size, 0, none⟩) 2 2) (w4.alloc (.cells #[.bool s, .slice no nn nc, .slice eo en ec, .bool s, .slice no nn nc, .slice eo en ec] 24)) := VL.made [⟨s, no, nn, nc, eo, en, ec⟩, ⟨s, no, nn, nc, eo, en, ec⟩] [qa, qa] ⟨ha, ha, trivial⟩ _ rfl 2 rfl
  rw [hz] at kl
  clear hz
  have lb : Below w4.heap.size w4 (w4.alloc (.cells #[.bool s, .slice no nn nc, .slice eo en ec, .bool s, .slice no nn nc, .slice eo en ec] 24)) := (Below.refl _ _).alloc (Nat.le_refl _) _
  replace ha := ha.later lb
  replace cq1 := cq1.later lb
  replace cq2 := cq2.later lb
  replace bx := bx.later lb
  replace b3 := b3.later lb
  replace b5 := b5.later lb
  have B5 := B4.trans (lb.mono B4.size)
  clear B4 lb
  generalize w4.alloc (.cells #[.bool s, .slice no nn nc, .slice eo en ec, .bool s, .slice no nn nc, .slice eo en ec] 24) = w5 at *
  refine (ratProduct_k kl hK1 (by simp only [List.length_cons, List.length_nil]; omega)).mono ?_
  rintro e w6 ⟨s3, no3, nn3, nc3, eo3, en3, ec3, rfl, cq3, lb⟩
  rw [qprod2] at cq3
  replace cq3 := cq3.mono (show [qa, qa].length * K + 1 ≤ 2 * K + 1 from by simp only [List.length_cons, List.length_nil]; omega)
  replace ha := ha.later lb
  replace cq1 := cq1.later lb
  replace cq2 := cq2.later lb
  replace bx := bx.later lb
  replace b3 := b3.later lb
  replace b5 := b5.later lb
  have B6 := B5.trans (lb.mono B5.size)
  clear B5 lb
  clear cbx0 cbx1 cbx2
  obtain ⟨cbx0, cbx1, cbx2⟩ := bx.cells
  go_wp2_with fail
  obtain ⟨h1, h2⟩ := qsq_square qa
  refine (ratSqrt_k cq3.rd (by omega) (by omega)).mono ?_
  rintro e w7 ⟨s4, no4, nn4, nc4, eo4, en4, ec4, rfl, cq4, lb⟩
  rw [h1]
  rw [h2] at cq4
  clear h1 h2
  replace ha := ha.later lb
  replace cq1 := cq1.later lb
  replace cq2 := cq2.later lb
  replace bx := bx.later lb
  replace b3 := b3.later lb
  replace b5 := b5.later lb
  have B7 := B6.trans (lb.mono B6.size)
  clear B6 lb
  have b7 : Rb (w7.alloc (.cells #[.bool s4, .slice no4 nn4 nc4, .slice eo4 en4 ec4] 24)) w7.heap.size (.bool s4) (.slice no4 nn4 nc4) (.slice eo4 en4 ec4) := ⟨heap_alloc_new _ _⟩
  have lb : Below w7.heap.size w7 (w7.alloc (.cells #[.bool s4, .slice no4 nn4 nc4, .slice eo4 en4 ec4] 24)) := (Below.refl _ _).alloc (Nat.le_refl _) _
  replace ha := ha.later lb
  replace cq1 := cq1.later lb
  replace cq2 := cq2.later lb
  replace cq4 := cq4.later lb
  replace bx := bx.later lb
  replace b3 := b3.later lb
  replace b5 := b5.later lb
  have B8 := B7.trans (lb.mono B7.size)
  clear B7 lb
  clear cbx0 cbx1 cbx2
  go_wp2
  generalize w7.heap.size = g7 at *
  generalize w7.alloc (.cells #[.bool s4, .slice no4 nn4 nc4, .slice eo4 en4 ec4] 24) = w8 at *
  clear hok
  have HLst : Lst [VV (.bool true), VV (.bool true), VV (.agg #[.bool s, .slice no nn nc, .slice eo en ec]), VC (qfl (qa)) (K + 1), VV (.agg #[.bool s, .slice no nn nc, .slice eo en ec]), VC (qfl (qa)) (K + 1), VV (.bool true), VV (.bool true), VV (.bool true), VV (.agg #[.bool s1, .slice no1 nn1 nc1, .slice eo1 en1 ec1]), VV (.agg #[.bool s2, .slice no2 nn2 nc2, .slice eo2 en2 ec2]), VV (.bool true), VV (.bool true), VV (.bool true), VV (.bool ok), VV (.bool ok), VV (.bool true), VV (.bool true), VV (.bool true), VV (.bool true), VV (.bool true), VV (.bool true), VV (.agg #[.bool s4, .slice no4 nn4 nc4, .slice eo4 en4 ec4]), VV (.agg #[.bool s, .slice no nn nc, .slice eo en ec]), VC (qabs (qa)) (K), VV (.bool true), VV (.bool true)] := ⟨VV.lasts _, VV.lasts _, VV.lasts _, VC.lasts _ _, VV.lasts _, VC.lasts _ _, VV.lasts _, VV.lasts _, VV.lasts _, VV.lasts _, VV.lasts _, VV.lasts _, VV.lasts _, VV.lasts _, VV.lasts _, VV.lasts _, VV.lasts _, VV.lasts _, VV.lasts _, VV.lasts _, VV.lasts _, VV.lasts _, VV.lasts _, VV.lasts _, VC.lasts _ _, VV.lasts _, VV.lasts _, trivial⟩
  refine wp_region_kahn 27 54 [([], []), ([(0, 27)], []), ([], [1]), ([(2, 29)], []), ([], [1]), ([(4, 31)], []), ([(3, 30), (5, 32)], []), ([(1, 28), (6, 33)], []), ([(7, 34)], []), ([], [3]), ([], [5]), ([(9, 36), (10, 37)], []), ([(8, 35), (11, 38)], []), ([(12, 39)], []), ([], [4]), ([], [6]), ([(14, 41), (15, 42)], []), ([(13, 40), (16, 43)], []), ([(17, 44)], []), ([], [8]), ([(18, 45), (19, 46)], []), ([(20, 47)], []), ([], [7]), ([], [1]), ([(23, 50)], []), ([(22, 49), (24, 51)], []), ([(21, 48), (25, 52)], [])]
    (fun u => Below w8.heap.size w8 u) (fun u u' => Below u.heap.size u u')
    (Sp [VV (.bool true), VV (.bool true), VV (.agg #[.bool s, .slice no nn nc, .slice eo en ec]), VC (qfl (qa)) (K + 1), VV (.agg #[.bool s, .slice no nn nc, .slice eo en ec]), VC (qfl (qa)) (K + 1), VV (.bool true), VV (.bool true), VV (.bool true), VV (.agg #[.bool s1, .slice no1 nn1 nc1, .slice eo1 en1 ec1]), VV (.agg #[.bool s2, .slice no2 nn2 nc2, .slice eo2 en2 ec2]), VV (.bool true), VV (.bool true), VV (.bool true), VV (.bool ok), VV (.bool ok), VV (.bool true), VV (.bool true), VV (.bool true), VV (.bool true), VV (.bool true), VV (.bool true), VV (.agg #[.bool s4, .slice no4 nn4 nc4, .slice eo4 en4 ec4]), VV (.agg #[.bool s, .slice no nn nc, .slice eo en ec]), VC (qabs (qa)) (K), VV (.bool true), VV (.bool true)])
    (by kernel_rfl) rfl (by kernel_rfl) (Below.refl _ _).drew (fun k v u u' _ hg hs => Sp.lasts HLst k v u u' hg hs) ?_ ?_
  · clear HLst
    refine ⟨.inl ⟨by simp, fun ρ u hC hc hf hd ho => ?_⟩, .inl ⟨by simp, fun ρ u hC hc hf hd ho => ?_⟩, .inl ⟨guard_of rfl fun _ _ h => h, fun ρ u hC hc hf hd ho => ?_⟩, .inl ⟨guard_of rfl fun _ _ h => h, fun ρ u hC hc hf hd ho => ?_⟩, .inl ⟨guard_of rfl fun _ _ h => h, fun ρ u hC hc hf hd ho => ?_⟩, .inl ⟨guard_of rfl fun _ _ h => h, fun ρ u hC hc hf hd ho => ?_⟩, .inl ⟨guard_of rfl fun _ _ h => h, fun ρ u hC hc hf hd ho => ?_⟩, .inl ⟨by simp, fun ρ u hC hc hf hd ho => ?_⟩, .inl ⟨by simp, fun ρ u hC hc hf hd ho => ?_⟩, .inl ⟨guard_of rfl fun _ _ h => h, fun ρ u hC hc hf hd ho => ?_⟩, .inl ⟨guard_of rfl fun _ _ h => h, fun ρ u hC hc hf hd ho => ?_⟩, .inl ⟨guard_of rfl fun _ _ h => h, fun ρ u hC hc hf hd ho => ?_⟩, .inl ⟨by simp, fun ρ u hC hc hf hd ho => ?_⟩, .inl ⟨by simp, fun ρ u hC hc hf hd ho => ?_⟩, .inl ⟨guard_of rfl fun _ _ h => h, fun ρ u hC hc hf hd ho => ?_⟩, .inl ⟨guard_of rfl fun _ _ h => h, fun ρ u hC hc hf hd ho => ?_⟩, .inl ⟨guard_of rfl fun _ _ h => h, fun ρ u hC hc hf hd ho => ?_⟩, .inl ⟨by simp, fun ρ u hC hc hf hd ho => ?_⟩, .inl ⟨by simp, fun ρ u hC hc hf hd ho => ?_⟩, .inl ⟨guard_of rfl fun _ _ h => h, fun ρ u hC hc hf hd ho => ?_⟩, .inl ⟨by simp, fun ρ u hC hc hf hd ho => ?_⟩, .inl ⟨by simp, fun ρ u hC hc hf hd ho => ?_⟩, .inl ⟨guard_of rfl fun _ _ h => h, fun ρ u hC hc hf hd ho => ?_⟩, .inl ⟨guard_of rfl fun _ _ h => h, fun ρ u hC hc hf hd ho => ?_⟩, .inl ⟨guard_of rfl fun _ _ h => h, fun ρ u hC hc hf hd ho => ?_⟩, .inl ⟨guard_of rfl fun _ _ h => h, fun ρ u hC hc hf hd ho => ?_⟩, .inl ⟨by simp, fun ρ u hC hc hf hd ho => ?_⟩, trivial⟩
    · refine Goes.call 9 #[] (by go_simp) ?_
      refine Calls.mono (fixed3_any u) ?_
      rintro e u' ⟨rfl, lb⟩
      exact ⟨_, rfl, hC.trans (lb.mono hC.size), lb, rfl⟩
    · have e27 : ρ (.tmp 27) = .bool true := hd (0, 27) (by simp)
      refine Goes.pure (.bool true) ?_ ⟨hC, Below.refl _ _, rfl⟩
      unfold Goes
      go_simp
    · have e1 : ρ (.tmp 1) = .pointer (some ⟨g, 0, none⟩) := ho 1 (by simp)
      obtain ⟨c0, c1, c2⟩ := (bx.later hC).cells
      refine Goes.pure (.agg #[.bool s, .slice no nn nc, .slice eo en ec]) ?_ ⟨hC, Below.refl _ _, rfl⟩
      unfold Goes
      go_simp
    · have e29 : ρ (.tmp 29) = .agg #[.bool s, .slice no nn nc, .slice eo en ec] := hd (2, 29) (by simp)
      refine Goes.call 36 #[.agg #[.bool s, .slice no nn nc, .slice eo en ec]] (by go_simp) ?_
      refine Calls.mono (ratFloor_k (ha.later hC) (by omega) (by omega)) ?_
      rintro e u' ⟨s1, no1, nn1, nc1, eo1, en1, ec1, rfl, cq, lb⟩
      exact ⟨_, rfl, hC.trans (lb.mono hC.size), lb, ⟨s1, no1, nn1, nc1, eo1, en1, ec1, rfl, cq⟩⟩
    · have e1 : ρ (.tmp 1) = .pointer (some ⟨g, 0, none⟩) := ho 1 (by simp)
      obtain ⟨c0, c1, c2⟩ := (bx.later hC).cells
      refine Goes.pure (.agg #[.bool s, .slice no nn nc, .slice eo en ec]) ?_ ⟨hC, Below.refl _ _, rfl⟩
      unfold Goes
      go_simp
    · have e31 : ρ (.tmp 31) = .agg #[.bool s, .slice no nn nc, .slice eo en ec] := hd (4, 31) (by simp)
      refine Goes.call 37 #[.agg #[.bool s, .slice no nn nc, .slice eo en ec]] (by go_simp) ?_
      refine Calls.mono (floor3_any u s no nn nc eo en ec (K) (qa) (ha.later hC) (by omega) (by omega)) ?_
      rintro e u' ⟨s1, no1, nn1, nc1, eo1, en1, ec1, rfl, cq, lb⟩
      exact ⟨_, rfl, hC.trans (lb.mono hC.size), lb, ⟨s1, no1, nn1, nc1, eo1, en1, ec1, rfl, cq⟩⟩
    · obtain ⟨s30, no30, nn30, nc30, eo30, en30, ec30, e30, k30⟩ : VC (qfl (qa)) (K + 1) (ρ (.tmp 30)) u := hd (3, 30) (by simp)
      obtain ⟨s32, no32, nn32, nc32, eo32, en32, ec32, e32, k32⟩ : VC (qfl (qa)) (K + 1) (ρ (.tmp 32)) u := hd (5, 32) (by simp)
      refine Goes.call 10 #[.agg #[.bool s30, .slice no30 nn30 nc30, .slice eo30 en30 ec30], .agg #[.bool s32, .slice no32 nn32 nc32, .slice eo32 en32 ec32]] (by go_simp) ?_
      refine Calls.mono (is3_any u s30 no30 nn30 nc30 eo30 en30 ec30 s32 no32 nn32 nc32 eo32 en32 ec32 _ _ _ _ k30.num k30.den k32.num k32.den (by have := k30.ln; omega) (by have := k30.ld; omega) (by have := k32.ln; omega) (by have := k32.ld; omega)) ?_
      rintro e u' ⟨r, rfl, HR, lb⟩
      exact ⟨_, rfl, hC.trans (lb.mono hC.size), lb, by rw [HR.out.2 (cq_same k30 k32 (rfl))]; rfl⟩
    · have e28 : ρ (.tmp 28) = .bool true := hd (1, 28) (by simp)
      have e33 : ρ (.tmp 33) = .bool true := hd (6, 33) (by simp)
      refine Goes.pure (.bool true) ?_ ⟨hC, Below.refl _ _, rfl⟩
      unfold Goes
      go_simp
    · have e34 : ρ (.tmp 34) = .bool true := hd (7, 34) (by simp)
      refine Goes.pure (.bool true) ?_ ⟨hC, Below.refl _ _, rfl⟩
      unfold Goes
      go_simp
    · have e3 : ρ (.tmp 3) = .pointer (some ⟨g3, 0, none⟩) := ho 3 (by simp)
      obtain ⟨c0, c1, c2⟩ := (b3.later hC).cells
      refine Goes.pure (.agg #[.bool s1, .slice no1 nn1 nc1, .slice eo1 en1 ec1]) ?_ ⟨hC, Below.refl _ _, rfl⟩
      unfold Goes
      go_simp
    · have e5 : ρ (.tmp 5) = .pointer (some ⟨g5, 0, none⟩) := ho 5 (by simp)
      obtain ⟨c0, c1, c2⟩ := (b5.later hC).cells
      refine Goes.pure (.agg #[.bool s2, .slice no2 nn2 nc2, .slice eo2 en2 ec2]) ?_ ⟨hC, Below.refl _ _, rfl⟩
      unfold Goes
      go_simp
    · have e36 : ρ (.tmp 36) = .agg #[.bool s1, .slice no1 nn1 nc1, .slice eo1 en1 ec1] := hd (9, 36) (by simp)
      have e37 : ρ (.tmp 37) = .agg #[.bool s2, .slice no2 nn2 nc2, .slice eo2 en2 ec2] := hd (10, 37) (by simp)
      refine Goes.call 10 #[.agg #[.bool s1, .slice no1 nn1 nc1, .slice eo1 en1 ec1], .agg #[.bool s2, .slice no2 nn2 nc2, .slice eo2 en2 ec2]] (by go_simp) ?_
      refine Calls.mono (is3_any u s1 no1 nn1 nc1 eo1 en1 ec1 s2 no2 nn2 nc2 eo2 en2 ec2 _ _ _ _ (cq1.later hC).num (cq1.later hC).den (cq2.later hC).num (cq2.later hC).den (by have := (cq1.later hC).ln; omega) (by have := (cq1.later hC).ld; omega) (by have := (cq2.later hC).ln; omega) (by have := (cq2.later hC).ld; omega)) ?_
      rintro e u' ⟨r, rfl, HR, lb⟩
      exact ⟨_, rfl, hC.trans (lb.mono hC.size), lb, by rw [HR.out.2 (cq_same (cq1.later hC) (cq2.later hC) (rfl))]; rfl⟩
    · have e35 : ρ (.tmp 35) = .bool true := hd (8, 35) (by simp)
      have e38 : ρ (.tmp 38) = .bool true := hd (11, 38) (by simp)
      refine Goes.pure (.bool true) ?_ ⟨hC, Below.refl _ _, rfl⟩
      unfold Goes
      go_simp
    · have e39 : ρ (.tmp 39) = .bool true := hd (12, 39) (by simp)
      refine Goes.pure (.bool true) ?_ ⟨hC, Below.refl _ _, rfl⟩
      unfold Goes
      go_simp
    · have e4 : ρ (.tmp 4) = .bool ok := ho 4 (by simp)
      refine Goes.pure (.bool ok) ?_ ⟨hC, Below.refl _ _, rfl⟩
      unfold Goes
      go_simp
    · have e6 : ρ (.tmp 6) = .bool ok := ho 6 (by simp)
      refine Goes.pure (.bool ok) ?_ ⟨hC, Below.refl _ _, rfl⟩
      unfold Goes
      go_simp
    · have e41 : ρ (.tmp 41) = .bool ok := hd (14, 41) (by simp)
      have e42 : ρ (.tmp 42) = .bool ok := hd (15, 42) (by simp)
      have hb0 : (ok == ok) = true := by simp
      refine Goes.pure (.bool true) ?_ ⟨hC, Below.refl _ _, rfl⟩
      unfold Goes
      go_simp
    · have e40 : ρ (.tmp 40) = .bool true := hd (13, 40) (by simp)
      have e43 : ρ (.tmp 43) = .bool true := hd (16, 43) (by simp)
      refine Goes.pure (.bool true) ?_ ⟨hC, Below.refl _ _, rfl⟩
      unfold Goes
      go_simp
    · have e44 : ρ (.tmp 44) = .bool true := hd (17, 44) (by simp)
      refine Goes.pure (.bool true) ?_ ⟨hC, Below.refl _ _, rfl⟩
      unfold Goes
      go_simp
    · have e8 : ρ (.tmp 8) = .bool true := ho 8 (by simp)
      refine Goes.pure (.bool true) ?_ ⟨hC, Below.refl _ _, rfl⟩
      unfold Goes
      go_simp
    · have e45 : ρ (.tmp 45) = .bool true := hd (18, 45) (by simp)
      have e46 : ρ (.tmp 46) = .bool true := hd (19, 46) (by simp)
      refine Goes.pure (.bool true) ?_ ⟨hC, Below.refl _ _, rfl⟩
      unfold Goes
      go_simp
    · have e47 : ρ (.tmp 47) = .bool true := hd (20, 47) (by simp)
      refine Goes.pure (.bool true) ?_ ⟨hC, Below.refl _ _, rfl⟩
      unfold Goes
      go_simp
    · have e7 : ρ (.tmp 7) = .pointer (some ⟨g7, 0, none⟩) := ho 7 (by simp)
      obtain ⟨c0, c1, c2⟩ := (b7.later hC).cells
      refine Goes.pure (.agg #[.bool s4, .slice no4 nn4 nc4, .slice eo4 en4 ec4]) ?_ ⟨hC, Below.refl _ _, rfl⟩
      unfold Goes
      go_simp
    · have e1 : ρ (.tmp 1) = .pointer (some ⟨g, 0, none⟩) := ho 1 (by simp)
      obtain ⟨c0, c1, c2⟩ := (bx.later hC).cells
      refine Goes.pure (.agg #[.bool s, .slice no nn nc, .slice eo en ec]) ?_ ⟨hC, Below.refl _ _, rfl⟩
      unfold Goes
      go_simp
    · have e50 : ρ (.tmp 50) = .agg #[.bool s, .slice no nn nc, .slice eo en ec] := hd (23, 50) (by simp)
      refine Goes.call 18 #[.agg #[.bool s, .slice no nn nc, .slice eo en ec]] (by go_simp) ?_
      refine Calls.mono (abs3_any u s no nn nc eo en ec (K) (qa) (ha.later hC) (by omega) (by omega)) ?_
      rintro e u' ⟨s1, no1, nn1, nc1, eo1, en1, ec1, rfl, cq, lb⟩
      exact ⟨_, rfl, hC.trans (lb.mono hC.size), lb, ⟨s1, no1, nn1, nc1, eo1, en1, ec1, rfl, cq⟩⟩
    · have e49 : ρ (.tmp 49) = .agg #[.bool s4, .slice no4 nn4 nc4, .slice eo4 en4 ec4] := hd (22, 49) (by simp)
      obtain ⟨s51, no51, nn51, nc51, eo51, en51, ec51, e51, k51⟩ : VC (qabs (qa)) (K) (ρ (.tmp 51)) u := hd (24, 51) (by simp)
      refine Goes.call 10 #[.agg #[.bool s4, .slice no4 nn4 nc4, .slice eo4 en4 ec4], .agg #[.bool s51, .slice no51 nn51 nc51, .slice eo51 en51 ec51]] (by go_simp) ?_
      refine Calls.mono (is3_any u s4 no4 nn4 nc4 eo4 en4 ec4 s51 no51 nn51 nc51 eo51 en51 ec51 _ _ _ _ (cq4.later hC).num (cq4.later hC).den k51.num k51.den (by have := (cq4.later hC).ln; omega) (by have := (cq4.later hC).ld; omega) (by have := k51.ln; omega) (by have := k51.ld; omega)) ?_
      rintro e u' ⟨r, rfl, HR, lb⟩
      exact ⟨_, rfl, hC.trans (lb.mono hC.size), lb, by rw [HR.out.2 (cq_same (cq4.later hC) k51 (rfl))]; rfl⟩
    · have e48 : ρ (.tmp 48) = .bool true := hd (21, 48) (by simp)
      have e52 : ρ (.tmp 52) = .bool true := hd (25, 52) (by simp)
      refine Goes.pure (.bool true) ?_ ⟨hC, Below.refl _ _, rfl⟩
      unfold Goes
      go_simp
  · intro vs u hC hv
    have eR : vs 26 = .bool true := hv 26 (by omega)
    clear hv
    simp only [puts, List.take, List.drop, Act.put, List.setIfInBounds_toArray, List.set_cons_succ, List.set_cons_zero, Nat.reduceAdd, eR]
    go_wp2
    go_ret
    exact ⟨rfl, B8.trans (hC.mono B8.size)⟩
end Go.Proofs.Ytagjjhaokhobhaa
