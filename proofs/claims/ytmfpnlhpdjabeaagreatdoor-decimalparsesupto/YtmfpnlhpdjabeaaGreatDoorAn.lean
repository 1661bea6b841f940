/- penumbralaw04.fixed: true. -/
import Derived.Test.YtmfpnlhpdjabeaaGreatDoorAm
import Derived.Test.YtmfpnlhpdjabeaaGreatDoorBT8
import Derived.Test.YtmfpnlhpdjabeaaGreatDoorAc
namespace Go.Proofs.YtmfpnlhpdjabeaaGreatDoor
open Go.RowKit M Kahn

theorem parse_c1 (w : World) : Calls Tryz.prog 9 #[.string ⟨#[48, 46, 49, 50, 53]⟩] w (Gqi w 20001 ((((1 : Int) : Rat) / ((8 : Int) : Rat)), 0)) := by
  have h := dparse_k (w := w) (l := [48, 46, 49, 50, 53]) (Byt.mk (by omega) (Byt.mk (by omega) (Byt.mk (by omega) (Byt.mk (by omega) (Byt.mk (by omega) Byt.nil))))) (by simp)
  rw [show prs [48, 46, 49, 50, 53] = ((((1 : Int) : Rat) / ((8 : Int) : Rat)), 0) from by decide +kernel] at h
  exact h
theorem parse_c2 (w : World) : Calls Tryz.prog 9 #[.string ⟨#[48, 48, 55, 47, 48, 49, 52]⟩] w (Gqi w 20001 ((((1 : Int) : Rat) / ((2 : Int) : Rat)), 0)) := by
  have h := dparse_k (w := w) (l := [48, 48, 55, 47, 48, 49, 52]) (Byt.mk (by omega) (Byt.mk (by omega) (Byt.mk (by omega) (Byt.mk (by omega) (Byt.mk (by omega) (Byt.mk (by omega) (Byt.mk (by omega) Byt.nil))))))) (by simp)
  rw [show prs [48, 48, 55, 47, 48, 49, 52] = ((((1 : Int) : Rat) / ((2 : Int) : Rat)), 0) from by decide +kernel] at h
  exact h
theorem parse_c3 (w : World) : Calls Tryz.prog 9 #[.string ⟨#[49, 47, 48]⟩] w (Gqi w 20001 (0, 42)) := by
  have h := dparse_k (w := w) (l := [49, 47, 48]) (Byt.mk (by omega) (Byt.mk (by omega) (Byt.mk (by omega) Byt.nil))) (by simp)
  rw [show prs [49, 47, 48] = (0, 42) from by decide +kernel] at h
  exact h
theorem parse_c4 (w : World) : Calls Tryz.prog 9 #[.string ⟨#[49, 46]⟩] w (Gqi w 20001 (0, 40)) := by
  have h := dparse_k (w := w) (l := [49, 46]) (Byt.mk (by omega) (Byt.mk (by omega) Byt.nil)) (by simp)
  rw [show prs [49, 46] = (0, 40) from by decide +kernel] at h
  exact h
/-- By digits that are read. -/
theorem dec_is {l : List Nat} {n : Nat} (h : dnum l = n) (hd : Dig l) (h0 : trz l = l) (hn : l ≠ []) : dec n = l := by
  have := dec_of_trz hd
  rw [h, h0, if_neg hn] at this
  exact this
theorem dec4294967296 : dec 4294967296 = [52, 50, 57, 52, 57, 54, 55, 50, 57, 54] :=
  dec_is (by decide +kernel) (fun x hx => by simp at hx; rcases hx with rfl | rfl | rfl | rfl | rfl | rfl | rfl | rfl | rfl | rfl <;> rfl) (by decide +kernel) (by simp)
set_option maxRecDepth 100000 in
set_option maxHeartbeats 8000000 in
theorem fixed4_any (w0 : World) : Calls Tryz.prog 8 #[] w0 fun e w' => e = .returned (.bool true) ∧ Below w0.heap.size w0 w' := by
  go_enter Tryz.func8, Tryz.ntmps8
  have B0 : Below w0.heap.size w0 w0 := Below.refl _ _
  go_wp2_with fail
  refine (parse_c1 w0).mono ?_
  rintro e w1 ⟨s1, no1, nn1, nc1, eo1, en1, ec1, rfl, cq1, lb⟩
  have B1 := B0.trans (lb.mono B0.size)
  clear B0 lb
  have b1 : Rb (w1.alloc (.cells #[.bool s1, .slice no1 nn1 nc1, .slice eo1 en1 ec1] 25)) w1.heap.size (.bool s1) (.slice no1 nn1 nc1) (.slice eo1 en1 ec1) := ⟨heap_alloc_new _ _⟩
  have lb : Below w1.heap.size w1 (w1.alloc (.cells #[.bool s1, .slice no1 nn1 nc1, .slice eo1 en1 ec1] 25)) := (Below.refl _ _).alloc (Nat.le_refl _) _
  replace cq1 := cq1.later lb
  have B2 := B1.trans (lb.mono B1.size)
  clear B1 lb
  go_wp2_with fail
  generalize w1.heap.size = g1 at *
  generalize w1.alloc (.cells #[.bool s1, .slice no1 nn1 nc1, .slice eo1 en1 ec1] 25) = w2 at *
  refine (parse_c2 w2).mono ?_
  rintro e w3 ⟨s2, no2, nn2, nc2, eo2, en2, ec2, rfl, cq2, lb⟩
  replace cq1 := cq1.later lb
  replace b1 := b1.later lb
  have B3 := B2.trans (lb.mono B2.size)
  clear B2 lb
  have b2 : Rb (w3.alloc (.cells #[.bool s2, .slice no2 nn2 nc2, .slice eo2 en2 ec2] 25)) w3.heap.size (.bool s2) (.slice no2 nn2 nc2) (.slice eo2 en2 ec2) := ⟨heap_alloc_new _ _⟩
  have lb : Below w3.heap.size w3 (w3.alloc (.cells #[.bool s2, .slice no2 nn2 nc2, .slice eo2 en2 ec2] 25)) := (Below.refl _ _).alloc (Nat.le_refl _) _
  replace cq1 := cq1.later lb
  replace cq2 := cq2.later lb
  replace b1 := b1.later lb
  have B4 := B3.trans (lb.mono B3.size)
  clear B3 lb
  go_wp2_with fail
  generalize w3.heap.size = g2 at *
  generalize w3.alloc (.cells #[.bool s2, .slice no2 nn2 nc2, .slice eo2 en2 ec2] 25) = w4 at *
  refine (parse_c3 w4).mono ?_
  rintro e w5 ⟨s3, no3, nn3, nc3, eo3, en3, ec3, rfl, cq3, lb⟩
  replace cq1 := cq1.later lb
  replace cq2 := cq2.later lb
  replace b1 := b1.later lb
  replace b2 := b2.later lb
  have B5 := B4.trans (lb.mono B4.size)
  clear B4 lb
  have b3 : Rb (w5.alloc (.cells #[.bool s3, .slice no3 nn3 nc3, .slice eo3 en3 ec3] 25)) w5.heap.size (.bool s3) (.slice no3 nn3 nc3) (.slice eo3 en3 ec3) := ⟨heap_alloc_new _ _⟩
  have lb : Below w5.heap.size w5 (w5.alloc (.cells #[.bool s3, .slice no3 nn3 nc3, .slice eo3 en3 ec3] 25)) := (Below.refl _ _).alloc (Nat.le_refl _) _
  replace cq1 := cq1.later lb
  replace cq2 := cq2.later lb
  replace cq3 := cq3.later lb
  replace b1 := b1.later lb
  replace b2 := b2.later lb
  have B6 := B5.trans (lb.mono B5.size)
  clear B5 lb
  go_wp2_with fail
  generalize w5.heap.size = g3 at *
  generalize w5.alloc (.cells #[.bool s3, .slice no3 nn3 nc3, .slice eo3 en3 ec3] 25) = w6 at *
  refine (parse_c4 w6).mono ?_
  rintro e w7 ⟨s4, no4, nn4, nc4, eo4, en4, ec4, rfl, cq4, lb⟩
  replace cq1 := cq1.later lb
  replace cq2 := cq2.later lb
  replace cq3 := cq3.later lb
  replace b1 := b1.later lb
  replace b2 := b2.later lb
  replace b3 := b3.later lb
  have B7 := B6.trans (lb.mono B6.size)
  clear B6 lb
  have b4 : Rb (w7.alloc (.cells #[.bool s4, .slice no4 nn4 nc4, .slice eo4 en4 ec4] 25)) w7.heap.size (.bool s4) (.slice no4 nn4 nc4) (.slice eo4 en4 ec4) := ⟨heap_alloc_new _ _⟩
  have lb : Below w7.heap.size w7 (w7.alloc (.cells #[.bool s4, .slice no4 nn4 nc4, .slice eo4 en4 ec4] 25)) := (Below.refl _ _).alloc (Nat.le_refl _) _
  replace cq1 := cq1.later lb
  replace cq2 := cq2.later lb
  replace cq3 := cq3.later lb
  replace cq4 := cq4.later lb
  replace b1 := b1.later lb
  replace b2 := b2.later lb
  replace b3 := b3.later lb
  have B8 := B7.trans (lb.mono B7.size)
  clear B7 lb
  go_wp2
  generalize w7.heap.size = g4 at *
  generalize w7.alloc (.cells #[.bool s4, .slice no4 nn4 nc4, .slice eo4 en4 ec4] 25) = w8 at *
  clear cq3 cq4 b3 b4
  have HLst : Lst [VV (.int .i64 0), VV (.bool true), VV (.bool true), VV (.agg #[.bool s1, .slice no1 nn1 nc1, .slice eo1 en1 ec1]), VC ((((1 : Int) : Rat) / ((8 : Int) : Rat))) (2), VV (.bool true), VV (.bool true), VV (.bool true), VV (.int .i64 0), VV (.bool true), VV (.bool true), VV (.bool true), VV (.agg #[.bool s2, .slice no2 nn2 nc2, .slice eo2 en2 ec2]), VC ((((1 : Int) : Rat) / ((2 : Int) : Rat))) (2), VV (.bool true), VV (.bool true), VV (.bool true), VV (.int .i64 42), VV (.bool true), VV (.bool true), VV (.bool true), VV (.int .i64 40), VV (.bool true), VV (.bool true), VV (.bool true), VC (((((-3) : Int) : Rat) / ((6 : Int) : Rat))) (2), VV (.string ⟨#[45, 49, 47, 50]⟩), VV (.bool true), VV (.bool true), VV (.bool true), VN (4294967296) (2), VV (.string ⟨#[52, 50, 57, 52, 57, 54, 55, 50, 57, 54]⟩), VV (.bool true), VV (.bool true)] := ⟨VV.lasts _, VV.lasts _, VV.lasts _, VV.lasts _, VC.lasts _ _, VV.lasts _, VV.lasts _, VV.lasts _, VV.lasts _, VV.lasts _, VV.lasts _, VV.lasts _, VV.lasts _, VC.lasts _ _, VV.lasts _, VV.lasts _, VV.lasts _, VV.lasts _, VV.lasts _, VV.lasts _, VV.lasts _, VV.lasts _, VV.lasts _, VV.lasts _, VV.lasts _, VC.lasts _ _, VV.lasts _, VV.lasts _, VV.lasts _, VV.lasts _, VN.lasts _ _, VV.lasts _, VV.lasts _, VV.lasts _, trivial⟩
  refine wp_region_kahn 34 59 [([], [2]), ([(0, 25)], []), ([(1, 26)], []), ([], [1]), ([], []), ([(3, 28), (4, 29)], []), ([(2, 27), (5, 30)], []), ([(6, 31)], []), ([], [4]), ([(8, 33)], []), ([(7, 32), (9, 34)], []), ([(10, 35)], []), ([], [3]), ([], []), ([(12, 37), (13, 38)], []), ([(11, 36), (14, 39)], []), ([(15, 40)], []), ([], [6]), ([(17, 42)], []), ([(16, 41), (18, 43)], []), ([(19, 44)], []), ([], [8]), ([(21, 46)], []), ([(20, 45), (22, 47)], []), ([(23, 48)], []), ([], []), ([(25, 50)], []), ([(26, 51)], []), ([(24, 49), (27, 52)], []), ([(28, 53)], []), ([], []), ([(30, 55)], []), ([(31, 56)], []), ([(29, 54), (32, 57)], [])]
    (fun u => Below w8.heap.size w8 u) (fun u u' => Below u.heap.size u u')
    (Sp [VV (.int .i64 0), VV (.bool true), VV (.bool true), VV (.agg #[.bool s1, .slice no1 nn1 nc1, .slice eo1 en1 ec1]), VC ((((1 : Int) : Rat) / ((8 : Int) : Rat))) (2), VV (.bool true), VV (.bool true), VV (.bool true), VV (.int .i64 0), VV (.bool true), VV (.bool true), VV (.bool true), VV (.agg #[.bool s2, .slice no2 nn2 nc2, .slice eo2 en2 ec2]), VC ((((1 : Int) : Rat) / ((2 : Int) : Rat))) (2), VV (.bool true), VV (.bool true), VV (.bool true), VV (.int .i64 42), VV (.bool true), VV (.bool true), VV (.bool true), VV (.int .i64 40), VV (.bool true), VV (.bool true), VV (.bool true), VC (((((-3) : Int) : Rat) / ((6 : Int) : Rat))) (2), VV (.string ⟨#[45, 49, 47, 50]⟩), VV (.bool true), VV (.bool true), VV (.bool true), VN (4294967296) (2), VV (.string ⟨#[52, 50, 57, 52, 57, 54, 55, 50, 57, 54]⟩), VV (.bool true), VV (.bool true)])
    (by kernel_rfl) rfl (by kernel_rfl) (Below.refl _ _).drew (fun k v u u' _ hg hs => Sp.lasts HLst k v u u' hg hs) ?_ ?_
  · clear HLst
    refine ⟨.inl ⟨by simp, fun ρ u hC hc hf hd ho => ?_⟩, .inl ⟨by simp, fun ρ u hC hc hf hd ho => ?_⟩, .inl ⟨by simp, fun ρ u hC hc hf hd ho => ?_⟩, .inl ⟨guard_of rfl fun _ _ h => h, fun ρ u hC hc hf hd ho => ?_⟩, .inl ⟨guard_of rfl fun _ _ h => h, fun ρ u hC hc hf hd ho => ?_⟩, .inl ⟨guard_of rfl fun _ _ h => h, fun ρ u hC hc hf hd ho => ?_⟩, .inl ⟨by simp, fun ρ u hC hc hf hd ho => ?_⟩, .inl ⟨by simp, fun ρ u hC hc hf hd ho => ?_⟩, .inl ⟨guard_of rfl fun _ _ h => h, fun ρ u hC hc hf hd ho => ?_⟩, .inl ⟨guard_of rfl fun _ _ h => h, fun ρ u hC hc hf hd ho => ?_⟩, .inl ⟨by simp, fun ρ u hC hc hf hd ho => ?_⟩, .inl ⟨by simp, fun ρ u hC hc hf hd ho => ?_⟩, .inl ⟨guard_of rfl fun _ _ h => h, fun ρ u hC hc hf hd ho => ?_⟩, .inl ⟨guard_of rfl fun _ _ h => h, fun ρ u hC hc hf hd ho => ?_⟩, .inl ⟨guard_of rfl fun _ _ h => h, fun ρ u hC hc hf hd ho => ?_⟩, .inl ⟨by simp, fun ρ u hC hc hf hd ho => ?_⟩, .inl ⟨by simp, fun ρ u hC hc hf hd ho => ?_⟩, .inl ⟨guard_of rfl fun _ _ h => h, fun ρ u hC hc hf hd ho => ?_⟩, .inl ⟨guard_of rfl fun _ _ h => h, fun ρ u hC hc hf hd ho => ?_⟩, .inl ⟨by simp, fun ρ u hC hc hf hd ho => ?_⟩, .inl ⟨by simp, fun ρ u hC hc hf hd ho => ?_⟩, .inl ⟨guard_of rfl fun _ _ h => h, fun ρ u hC hc hf hd ho => ?_⟩, .inl ⟨guard_of rfl fun _ _ h => h, fun ρ u hC hc hf hd ho => ?_⟩, .inl ⟨by simp, fun ρ u hC hc hf hd ho => ?_⟩, .inl ⟨by simp, fun ρ u hC hc hf hd ho => ?_⟩, .inl ⟨guard_of rfl fun _ _ h => h, fun ρ u hC hc hf hd ho => ?_⟩, .inl ⟨guard_of rfl fun _ _ h => h, fun ρ u hC hc hf hd ho => ?_⟩, .inl ⟨guard_of rfl fun _ _ h => h, fun ρ u hC hc hf hd ho => ?_⟩, .inl ⟨by simp, fun ρ u hC hc hf hd ho => ?_⟩, .inl ⟨by simp, fun ρ u hC hc hf hd ho => ?_⟩, .inl ⟨guard_of rfl fun _ _ h => h, fun ρ u hC hc hf hd ho => ?_⟩, .inl ⟨guard_of rfl fun _ _ h => h, fun ρ u hC hc hf hd ho => ?_⟩, .inl ⟨guard_of rfl fun _ _ h => h, fun ρ u hC hc hf hd ho => ?_⟩, .inl ⟨by simp, fun ρ u hC hc hf hd ho => ?_⟩, trivial⟩
    · have e2 : ρ (.tmp 2) = .int .i64 0 := ho 2 (by simp)
      refine Goes.pure (.int .i64 0) ?_ ⟨hC, Below.refl _ _, rfl⟩
      unfold Goes
      go_simp
    · have e25 : ρ (.tmp 25) = .int .i64 0 := hd (0, 25) (by simp)
      refine Goes.pure (.bool true) ?_ ⟨hC, Below.refl _ _, rfl⟩
      unfold Goes
      go_simp
    · have e26 : ρ (.tmp 26) = .bool true := hd (1, 26) (by simp)
      refine Goes.pure (.bool true) ?_ ⟨hC, Below.refl _ _, rfl⟩
      unfold Goes
      go_simp
    · have e1 : ρ (.tmp 1) = .pointer (some ⟨g1, 0, none⟩) := ho 1 (by simp)
      obtain ⟨c0, c1, c2⟩ := (b1.later hC).cells
      refine Goes.pure (.agg #[.bool s1, .slice no1 nn1 nc1, .slice eo1 en1 ec1]) ?_ ⟨hC, Below.refl _ _, rfl⟩
      unfold Goes
      go_simp
    · refine Goes.call 23 #[.int .i64 1, .int .i64 8] (by go_simp) ?_
      refine Calls.mono (of3_any u 1 8 (by omega) (by omega) (by omega) (by omega)) ?_
      rintro e u' ⟨s1, no1, nn1, nc1, eo1, en1, ec1, rfl, cq, lb⟩
      exact ⟨_, rfl, hC.trans (lb.mono hC.size), lb, ⟨s1, no1, nn1, nc1, eo1, en1, ec1, rfl, cq⟩⟩
    · have e28 : ρ (.tmp 28) = .agg #[.bool s1, .slice no1 nn1 nc1, .slice eo1 en1 ec1] := hd (3, 28) (by simp)
      obtain ⟨s29, no29, nn29, nc29, eo29, en29, ec29, e29, k29⟩ : VC ((((1 : Int) : Rat) / ((8 : Int) : Rat))) (2) (ρ (.tmp 29)) u := hd (4, 29) (by simp)
      refine Goes.call 11 #[.agg #[.bool s1, .slice no1 nn1 nc1, .slice eo1 en1 ec1], .agg #[.bool s29, .slice no29 nn29 nc29, .slice eo29 en29 ec29]] (by go_simp) ?_
      refine Calls.mono (is3_any u s1 no1 nn1 nc1 eo1 en1 ec1 s29 no29 nn29 nc29 eo29 en29 ec29 _ _ _ _ (cq1.later hC).num (cq1.later hC).den k29.num k29.den (by have := (cq1.later hC).ln; omega) (by have := (cq1.later hC).ld; omega) (by have := k29.ln; omega) (by have := k29.ld; omega)) ?_
      rintro e u' ⟨r, rfl, HR, lb⟩
      exact ⟨_, rfl, hC.trans (lb.mono hC.size), lb, by rw [HR.out.2 (cq_same (cq1.later hC) k29 (rfl))]; rfl⟩
    · have e27 : ρ (.tmp 27) = .bool true := hd (2, 27) (by simp)
      have e30 : ρ (.tmp 30) = .bool true := hd (5, 30) (by simp)
      refine Goes.pure (.bool true) ?_ ⟨hC, Below.refl _ _, rfl⟩
      unfold Goes
      go_simp
    · have e31 : ρ (.tmp 31) = .bool true := hd (6, 31) (by simp)
      refine Goes.pure (.bool true) ?_ ⟨hC, Below.refl _ _, rfl⟩
      unfold Goes
      go_simp
    · have e4 : ρ (.tmp 4) = .int .i64 0 := ho 4 (by simp)
      refine Goes.pure (.int .i64 0) ?_ ⟨hC, Below.refl _ _, rfl⟩
      unfold Goes
      go_simp
    · have e33 : ρ (.tmp 33) = .int .i64 0 := hd (8, 33) (by simp)
      refine Goes.pure (.bool true) ?_ ⟨hC, Below.refl _ _, rfl⟩
      unfold Goes
      go_simp
    · have e32 : ρ (.tmp 32) = .bool true := hd (7, 32) (by simp)
      have e34 : ρ (.tmp 34) = .bool true := hd (9, 34) (by simp)
      refine Goes.pure (.bool true) ?_ ⟨hC, Below.refl _ _, rfl⟩
      unfold Goes
      go_simp
    · have e35 : ρ (.tmp 35) = .bool true := hd (10, 35) (by simp)
      refine Goes.pure (.bool true) ?_ ⟨hC, Below.refl _ _, rfl⟩
      unfold Goes
      go_simp
    · have e3 : ρ (.tmp 3) = .pointer (some ⟨g2, 0, none⟩) := ho 3 (by simp)
      obtain ⟨c0, c1, c2⟩ := (b2.later hC).cells
      refine Goes.pure (.agg #[.bool s2, .slice no2 nn2 nc2, .slice eo2 en2 ec2]) ?_ ⟨hC, Below.refl _ _, rfl⟩
      unfold Goes
      go_simp
    · refine Goes.call 23 #[.int .i64 1, .int .i64 2] (by go_simp) ?_
      refine Calls.mono (of3_any u 1 2 (by omega) (by omega) (by omega) (by omega)) ?_
      rintro e u' ⟨s1, no1, nn1, nc1, eo1, en1, ec1, rfl, cq, lb⟩
      exact ⟨_, rfl, hC.trans (lb.mono hC.size), lb, ⟨s1, no1, nn1, nc1, eo1, en1, ec1, rfl, cq⟩⟩
    · have e37 : ρ (.tmp 37) = .agg #[.bool s2, .slice no2 nn2 nc2, .slice eo2 en2 ec2] := hd (12, 37) (by simp)
      obtain ⟨s38, no38, nn38, nc38, eo38, en38, ec38, e38, k38⟩ : VC ((((1 : Int) : Rat) / ((2 : Int) : Rat))) (2) (ρ (.tmp 38)) u := hd (13, 38) (by simp)
      refine Goes.call 11 #[.agg #[.bool s2, .slice no2 nn2 nc2, .slice eo2 en2 ec2], .agg #[.bool s38, .slice no38 nn38 nc38, .slice eo38 en38 ec38]] (by go_simp) ?_
      refine Calls.mono (is3_any u s2 no2 nn2 nc2 eo2 en2 ec2 s38 no38 nn38 nc38 eo38 en38 ec38 _ _ _ _ (cq2.later hC).num (cq2.later hC).den k38.num k38.den (by have := (cq2.later hC).ln; omega) (by have := (cq2.later hC).ld; omega) (by have := k38.ln; omega) (by have := k38.ld; omega)) ?_
      rintro e u' ⟨r, rfl, HR, lb⟩
      exact ⟨_, rfl, hC.trans (lb.mono hC.size), lb, by rw [HR.out.2 (cq_same (cq2.later hC) k38 (rfl))]; rfl⟩
    · have e36 : ρ (.tmp 36) = .bool true := hd (11, 36) (by simp)
      have e39 : ρ (.tmp 39) = .bool true := hd (14, 39) (by simp)
      refine Goes.pure (.bool true) ?_ ⟨hC, Below.refl _ _, rfl⟩
      unfold Goes
      go_simp
    · have e40 : ρ (.tmp 40) = .bool true := hd (15, 40) (by simp)
      refine Goes.pure (.bool true) ?_ ⟨hC, Below.refl _ _, rfl⟩
      unfold Goes
      go_simp
    · have e6 : ρ (.tmp 6) = .int .i64 42 := ho 6 (by simp)
      refine Goes.pure (.int .i64 42) ?_ ⟨hC, Below.refl _ _, rfl⟩
      unfold Goes
      go_simp
    · have e42 : ρ (.tmp 42) = .int .i64 42 := hd (17, 42) (by simp)
      refine Goes.pure (.bool true) ?_ ⟨hC, Below.refl _ _, rfl⟩
      unfold Goes
      go_simp
    · have e41 : ρ (.tmp 41) = .bool true := hd (16, 41) (by simp)
      have e43 : ρ (.tmp 43) = .bool true := hd (18, 43) (by simp)
      refine Goes.pure (.bool true) ?_ ⟨hC, Below.refl _ _, rfl⟩
      unfold Goes
      go_simp
    · have e44 : ρ (.tmp 44) = .bool true := hd (19, 44) (by simp)
      refine Goes.pure (.bool true) ?_ ⟨hC, Below.refl _ _, rfl⟩
      unfold Goes
      go_simp
    · have e8 : ρ (.tmp 8) = .int .i64 40 := ho 8 (by simp)
      refine Goes.pure (.int .i64 40) ?_ ⟨hC, Below.refl _ _, rfl⟩
      unfold Goes
      go_simp
    · have e46 : ρ (.tmp 46) = .int .i64 40 := hd (21, 46) (by simp)
      refine Goes.pure (.bool true) ?_ ⟨hC, Below.refl _ _, rfl⟩
      unfold Goes
      go_simp
    · have e45 : ρ (.tmp 45) = .bool true := hd (20, 45) (by simp)
      have e47 : ρ (.tmp 47) = .bool true := hd (22, 47) (by simp)
      refine Goes.pure (.bool true) ?_ ⟨hC, Below.refl _ _, rfl⟩
      unfold Goes
      go_simp
    · have e48 : ρ (.tmp 48) = .bool true := hd (23, 48) (by simp)
      refine Goes.pure (.bool true) ?_ ⟨hC, Below.refl _ _, rfl⟩
      unfold Goes
      go_simp
    · refine Goes.call 24 #[Value.int IntKind.i64 (-3), .int .i64 6] (by go_simp) ?_
      refine Calls.mono (ratOf_k (-3) 6 (by omega) (by omega) (by omega) (by omega)) ?_
      rintro e u' ⟨s1, no1, nn1, nc1, eo1, en1, ec1, rfl, cq, lb⟩
      exact ⟨_, rfl, hC.trans (lb.mono hC.size), lb, ⟨s1, no1, nn1, nc1, eo1, en1, ec1, rfl, cq⟩⟩
    · obtain ⟨s50, no50, nn50, nc50, eo50, en50, ec50, e50, k50⟩ : VC (((((-3) : Int) : Rat) / ((6 : Int) : Rat))) (2) (ρ (.tmp 50)) u := hd (25, 50) (by simp)
      refine Goes.call 12 #[.agg #[.bool s50, .slice no50 nn50 nc50, .slice eo50 en50 ec50]] (by go_simp) ?_
      refine Calls.mono (dprint_k k50.rd (by omega) (by omega)) ?_
      rintro e u' ⟨rfl, lb⟩
      exact ⟨_, rfl, hC.trans (lb.mono hC.size), lb, by rw [show prt ((((-3) : Int) : Rat) / ((6 : Int) : Rat)) = [45, 49, 47, 50] from by decide +kernel]; rfl⟩
    · have e51 : ρ (.tmp 51) = .string ⟨#[45, 49, 47, 50]⟩ := hd (26, 51) (by simp)
      refine Goes.pure (.bool true) ?_ ⟨hC, Below.refl _ _, rfl⟩
      unfold Goes
      go_simp
    · have e49 : ρ (.tmp 49) = .bool true := hd (24, 49) (by simp)
      have e52 : ρ (.tmp 52) = .bool true := hd (27, 52) (by simp)
      refine Goes.pure (.bool true) ?_ ⟨hC, Below.refl _ _, rfl⟩
      unfold Goes
      go_simp
    · have e53 : ρ (.tmp 53) = .bool true := hd (28, 53) (by simp)
      refine Goes.pure (.bool true) ?_ ⟨hC, Below.refl _ _, rfl⟩
      unfold Goes
      go_simp
    · obtain ⟨sl, lb⟩ := lit1 u 2 [0, 1] #[.int .u32 0, .int .u32 1] rfl (Lim.mk (by omega) (Lim.mk (by omega) Lim.nil)) rfl
      refine Goes.run (.slice (some ⟨u.heap.size, 0, none⟩) 2 2) (u.alloc (.cells #[.int .u32 0, .int .u32 1] 40)) (by go_simp) ⟨hC.trans (lb.mono hC.size), lb, ?_⟩
      exact ⟨_, 2, 2, rfl, by rw [show toL 4294967296 = [0, 1] from toL_is rfl (Lim.mk (by omega) (Lim.mk (by omega) Lim.nil)) (.inr (by simp))]; exact sl, by omega⟩
    · obtain ⟨o55, n55, c55, e55, k55, j55⟩ : VN (4294967296) (2) (ρ (.tmp 55)) u := hd (30, 55) (by simp)
      refine Goes.call 14 #[.slice o55 n55 c55] (by go_simp) ?_
      refine Calls.mono (dnatural_k k55 (by omega)) ?_
      rintro e u' ⟨rfl, lb⟩
      exact ⟨_, rfl, hC.trans (lb.mono hC.size), lb, by rw [val_toL, show dec 4294967296 = [52, 50, 57, 52, 57, 54, 55, 50, 57, 54] from dec4294967296]; rfl⟩
    · have e56 : ρ (.tmp 56) = .string ⟨#[52, 50, 57, 52, 57, 54, 55, 50, 57, 54]⟩ := hd (31, 56) (by simp)
      refine Goes.pure (.bool true) ?_ ⟨hC, Below.refl _ _, rfl⟩
      unfold Goes
      go_simp
    · have e54 : ρ (.tmp 54) = .bool true := hd (29, 54) (by simp)
      have e57 : ρ (.tmp 57) = .bool true := hd (32, 57) (by simp)
      refine Goes.pure (.bool true) ?_ ⟨hC, Below.refl _ _, rfl⟩
      unfold Goes
      go_simp
  · intro vs u hC hv
    have eR : vs 33 = .bool true := hv 33 (by omega)
    clear hv
    simp only [puts, List.take, List.drop, Act.put, List.setIfInBounds_toArray, List.set_cons_succ, List.set_cons_zero, Nat.reduceAdd, eR]
    go_wp2
    go_ret
    exact ⟨rfl, B8.trans (hC.mono B8.size)⟩
end Go.Proofs.YtmfpnlhpdjabeaaGreatDoor
