/- penumbralaw03.fixed: true. -/
import Derived.Test.YtagjjhaokhobhaaAc
namespace Go.Proofs.Ytagjjhaokhobhaa
open Go.RowKit M Kahn

theorem cq_same {u : World} {s : Bool} {no : Option Addr} {nn nc : Nat} {eo : Option Addr} {en ec : Nat} {q : Rat} {K : Nat} {t : Bool} {mo : Option Addr} {mn mc : Nat} {fo : Option Addr} {fn fc : Nat} {p : Rat} {L : Nat} (h : Cq u s no nn nc eo en ec q K) (h' : Cq u t mo mn mc fo fn fc p L) (e : q = p) :
    s = t ∧ toL q.num.natAbs = toL p.num.natAbs ∧ toL q.den = toL p.den := by
  subst e
  exact ⟨by rw [h.sgn, h'.sgn], rfl, rfl⟩

set_option maxRecDepth 100000 in
set_option maxHeartbeats 8000000 in
theorem fixed3_any (w0 : World) : Calls Try.prog 9 #[] w0 fun e w' => e = .returned (.bool true) ∧ Below w0.heap.size w0 w' := by
  go_enter Try.func9, Try.ntmps9
  have B0 : Below w0.heap.size w0 w0 := Below.refl _ _
  go_wp2_with fail
  refine (ratOf_k 6 (-4) (by omega) (by omega) (by omega) (by omega)).mono ?_
  rintro e w1 ⟨s1, no1, nn1, nc1, eo1, en1, ec1, rfl, cq1, lb⟩
  obtain rfl : s1 = true := by rw [cq1.sgn]; decide +kernel
  have B1 := B0.trans (lb.mono B0.size)
  clear B0 lb
  have b1 : Rb (w1.alloc (.cells #[.bool true, .slice no1 nn1 nc1, .slice eo1 en1 ec1] 24)) w1.heap.size (.bool true) (.slice no1 nn1 nc1) (.slice eo1 en1 ec1) := ⟨heap_alloc_new _ _⟩
  have lb : Below w1.heap.size w1 (w1.alloc (.cells #[.bool true, .slice no1 nn1 nc1, .slice eo1 en1 ec1] 24)) := (Below.refl _ _).alloc (Nat.le_refl _) _
  replace cq1 := cq1.later lb
  have B2 := B1.trans (lb.mono B1.size)
  clear B1 lb
  go_wp2_with fail
  generalize w1.heap.size = g1 at *
  generalize w1.alloc (.cells #[.bool true, .slice no1 nn1 nc1, .slice eo1 en1 ec1] 24) = w2 at *
  refine (ratOf_k 1 2 (by omega) (by omega) (by omega) (by omega)).mono ?_
  rintro e w3 ⟨s2, no2, nn2, nc2, eo2, en2, ec2, rfl, cq2, lb⟩
  replace cq1 := cq1.later lb
  replace b1 := b1.later lb
  have B3 := B2.trans (lb.mono B2.size)
  clear B2 lb
  go_wp2_with fail
  refine (ratOf_k 0 5 (by omega) (by omega) (by omega) (by omega)).mono ?_
  rintro e w4 ⟨s3, no3, nn3, nc3, eo3, en3, ec3, rfl, cq3, lb⟩
  replace cq1 := cq1.later lb
  replace cq2 := cq2.later lb
  replace b1 := b1.later lb
  have B4 := B3.trans (lb.mono B3.size)
  clear B3 lb
  go_wp2_with fail
  refine (ratDiv_k cq2.rd cq3.rd (by omega) (by omega) (by omega)).mono ?_
  rintro e w5 ⟨s4, no4, nn4, nc4, eo4, en4, ec4, rfl, cq4, lb⟩
  rw [show decide ((((0 : Int) : Rat) / ((5 : Int) : Rat)) ≠ 0) = false from by decide +kernel]
  replace cq1 := cq1.later lb
  replace cq2 := cq2.later lb
  replace cq3 := cq3.later lb
  replace b1 := b1.later lb
  have B5 := B4.trans (lb.mono B4.size)
  clear B4 lb
  have b2 : Rb (w5.alloc (.cells #[.bool s4, .slice no4 nn4 nc4, .slice eo4 en4 ec4] 24)) w5.heap.size (.bool s4) (.slice no4 nn4 nc4) (.slice eo4 en4 ec4) := ⟨heap_alloc_new _ _⟩
  have lb : Below w5.heap.size w5 (w5.alloc (.cells #[.bool s4, .slice no4 nn4 nc4, .slice eo4 en4 ec4] 24)) := (Below.refl _ _).alloc (Nat.le_refl _) _
  replace cq1 := cq1.later lb
  replace cq2 := cq2.later lb
  replace cq3 := cq3.later lb
  replace cq4 := cq4.later lb
  replace b1 := b1.later lb
  have B6 := B5.trans (lb.mono B5.size)
  clear B5 lb
  clear cq2 cq3
  go_wp2_with fail
  generalize w5.heap.size = g2 at *
  generalize w5.alloc (.cells #[.bool s4, .slice no4 nn4 nc4, .slice eo4 en4 ec4] 24) = w6 at *
  refine (ratOf_k 4 9 (by omega) (by omega) (by omega) (by omega)).mono ?_
  rintro e w7 ⟨s5, no5, nn5, nc5, eo5, en5, ec5, rfl, cq5, lb⟩
  replace cq1 := cq1.later lb
  replace cq4 := cq4.later lb
  replace b1 := b1.later lb
  replace b2 := b2.later lb
  have B7 := B6.trans (lb.mono B6.size)
  clear B6 lb
  go_wp2_with fail
  refine (ratSqrt_k cq5.rd (by omega) (by omega)).mono ?_
  rintro e w8 ⟨s6, no6, nn6, nc6, eo6, en6, ec6, rfl, cq6, lb⟩
  rw [show qsq (((4 : Int) : Rat) / ((9 : Int) : Rat)) = true from by decide +kernel]
  rw [show qsqrt (((4 : Int) : Rat) / ((9 : Int) : Rat)) = (((2 : Int) : Rat) / ((3 : Int) : Rat)) from by decide +kernel] at cq6
  replace cq1 := cq1.later lb
  replace cq4 := cq4.later lb
  replace cq5 := cq5.later lb
  replace b1 := b1.later lb
  replace b2 := b2.later lb
  have B8 := B7.trans (lb.mono B7.size)
  clear B7 lb
  have b4 : Rb (w8.alloc (.cells #[.bool s6, .slice no6 nn6 nc6, .slice eo6 en6 ec6] 24)) w8.heap.size (.bool s6) (.slice no6 nn6 nc6) (.slice eo6 en6 ec6) := ⟨heap_alloc_new _ _⟩
  have lb : Below w8.heap.size w8 (w8.alloc (.cells #[.bool s6, .slice no6 nn6 nc6, .slice eo6 en6 ec6] 24)) := (Below.refl _ _).alloc (Nat.le_refl _) _
  replace cq1 := cq1.later lb
  replace cq4 := cq4.later lb
  replace cq5 := cq5.later lb
  replace cq6 := cq6.later lb
  replace b1 := b1.later lb
  replace b2 := b2.later lb
  have B9 := B8.trans (lb.mono B8.size)
  clear B8 lb
  clear cq5
  go_wp2_with fail
  generalize w8.heap.size = g4 at *
  generalize w8.alloc (.cells #[.bool s6, .slice no6 nn6 nc6, .slice eo6 en6 ec6] 24) = w9 at *
  refine (ratOf_k 2 1 (by omega) (by omega) (by omega) (by omega)).mono ?_
  rintro e w10 ⟨s7, no7, nn7, nc7, eo7, en7, ec7, rfl, cq7, lb⟩
  replace cq1 := cq1.later lb
  replace cq4 := cq4.later lb
  replace cq6 := cq6.later lb
  replace b1 := b1.later lb
  replace b2 := b2.later lb
  replace b4 := b4.later lb
  have B10 := B9.trans (lb.mono B9.size)
  clear B9 lb
  go_wp2_with fail
  refine (ratSqrt_k cq7.rd (by omega) (by omega)).mono ?_
  rintro e w11 ⟨s8, no8, nn8, nc8, eo8, en8, ec8, rfl, cq8, lb⟩
  rw [show qsq (((2 : Int) : Rat) / ((1 : Int) : Rat)) = false from by decide +kernel]
  replace cq1 := cq1.later lb
  replace cq4 := cq4.later lb
  replace cq6 := cq6.later lb
  replace cq7 := cq7.later lb
  replace b1 := b1.later lb
  replace b2 := b2.later lb
  replace b4 := b4.later lb
  have B11 := B10.trans (lb.mono B10.size)
  clear B10 lb
  have b6 : Rb (w11.alloc (.cells #[.bool s8, .slice no8 nn8 nc8, .slice eo8 en8 ec8] 24)) w11.heap.size (.bool s8) (.slice no8 nn8 nc8) (.slice eo8 en8 ec8) := ⟨heap_alloc_new _ _⟩
  have lb : Below w11.heap.size w11 (w11.alloc (.cells #[.bool s8, .slice no8 nn8 nc8, .slice eo8 en8 ec8] 24)) := (Below.refl _ _).alloc (Nat.le_refl _) _
  replace cq1 := cq1.later lb
  replace cq4 := cq4.later lb
  replace cq6 := cq6.later lb
  replace cq7 := cq7.later lb
  replace cq8 := cq8.later lb
  replace b1 := b1.later lb
  replace b2 := b2.later lb
  replace b4 := b4.later lb
  have B12 := B11.trans (lb.mono B11.size)
  clear B11 lb
  go_wp2
  generalize w11.heap.size = g6 at *
  generalize w11.alloc (.cells #[.bool s8, .slice no8 nn8 nc8, .slice eo8 en8 ec8] 24) = w12 at *
  clear cq7 cq8 b2 b6 cq4
  have HLst : Lst [VV (.pointer (some ⟨g1, 0, none⟩)), VV (.bool true), VV (.bool true), VV (.pointer (some ⟨g1, 1, none⟩)), VV (.slice no1 nn1 nc1), VN (3) (1), VV (.bool true), VV (.bool true), VV (.bool true), VV (.pointer (some ⟨g1, 2, none⟩)), VV (.slice eo1 en1 ec1), VN (2) (1), VV (.bool true), VV (.bool true), VV (.bool true), VC ((((1 : Int) : Rat) / ((2 : Int) : Rat))) (2), VC ((((1 : Int) : Rat) / ((3 : Int) : Rat))) (2), VL [(((1 : Int) : Rat) / ((2 : Int) : Rat)), (((1 : Int) : Rat) / ((3 : Int) : Rat))] (2), VC (((((1 : Int) : Rat) / ((2 : Int) : Rat))) + ((((1 : Int) : Rat) / ((3 : Int) : Rat)))) (2 * (2 + 1) + 1), VC ((((5 : Int) : Rat) / ((6 : Int) : Rat))) (2), VV (.bool true), VV (.bool true), VV (.bool true), VC (qprod []) (1), VC (1) (1), VV (.bool true), VV (.bool true), VV (.bool true), VV (.bool false), VV (.bool true), VV (.bool true), VV (.bool true), VV (.agg #[.bool s6, .slice no6 nn6 nc6, .slice eo6 en6 ec6]), VC ((((2 : Int) : Rat) / ((3 : Int) : Rat))) (2), VV (.bool true), VV (.bool true), VV (.bool true), VV (.bool true), VV (.bool true), VV (.bool true), VV (.bool false), VV (.bool true), VV (.bool true), VV (.bool true), VC (((((-1) : Int) : Rat) / ((2 : Int) : Rat))) (2), VC (qfl (((((-1) : Int) : Rat) / ((2 : Int) : Rat)))) (2 + 1), VC (((((-1) : Int) : Rat) / ((1 : Int) : Rat))) (2), VV (.bool true), VV (.bool true)] := ⟨VV.lasts _, VV.lasts _, VV.lasts _, VV.lasts _, VV.lasts _, VN.lasts _ _, VV.lasts _, VV.lasts _, VV.lasts _, VV.lasts _, VV.lasts _, VN.lasts _ _, VV.lasts _, VV.lasts _, VV.lasts _, VC.lasts _ _, VC.lasts _ _, VL.lasts _ _, VC.lasts _ _, VC.lasts _ _, VV.lasts _, VV.lasts _, VV.lasts _, VC.lasts _ _, VC.lasts _ _, VV.lasts _, VV.lasts _, VV.lasts _, VV.lasts _, VV.lasts _, VV.lasts _, VV.lasts _, VV.lasts _, VC.lasts _ _, VV.lasts _, VV.lasts _, VV.lasts _, VV.lasts _, VV.lasts _, VV.lasts _, VV.lasts _, VV.lasts _, VV.lasts _, VV.lasts _, VC.lasts _ _, VC.lasts _ _, VC.lasts _ _, VV.lasts _, VV.lasts _, trivial⟩
  refine wp_region_kahn 49 74 [([], [1]), ([(0, 25)], []), ([(1, 26)], []), ([], [1]), ([(3, 28)], []), ([], []), ([(4, 29), (5, 30)], []), ([(2, 27), (6, 31)], []), ([(7, 32)], []), ([], [1]), ([(9, 34)], []), ([], []), ([(10, 35), (11, 36)], []), ([(8, 33), (12, 37)], []), ([(13, 38)], []), ([], []), ([], []), ([(15, 40), (16, 41)], []), ([(17, 42)], []), ([], []), ([(18, 43), (19, 44)], []), ([(14, 39), (20, 45)], []), ([(21, 46)], []), ([], []), ([], []), ([(23, 48), (24, 49)], []), ([(22, 47), (25, 50)], []), ([(26, 51)], []), ([], [3]), ([(28, 53)], []), ([(27, 52), (29, 54)], []), ([(30, 55)], []), ([], [4]), ([], []), ([(32, 57), (33, 58)], []), ([(31, 56), (34, 59)], []), ([(35, 60)], []), ([], [5]), ([(36, 61), (37, 62)], []), ([(38, 63)], []), ([], [7]), ([(40, 65)], []), ([(39, 64), (41, 66)], []), ([(42, 67)], []), ([], []), ([(44, 69)], []), ([], []), ([(45, 70), (46, 71)], []), ([(43, 68), (47, 72)], [])]
    (fun u => Below w12.heap.size w12 u) (fun u u' => Below u.heap.size u u')
    (Sp [VV (.pointer (some ⟨g1, 0, none⟩)), VV (.bool true), VV (.bool true), VV (.pointer (some ⟨g1, 1, none⟩)), VV (.slice no1 nn1 nc1), VN (3) (1), VV (.bool true), VV (.bool true), VV (.bool true), VV (.pointer (some ⟨g1, 2, none⟩)), VV (.slice eo1 en1 ec1), VN (2) (1), VV (.bool true), VV (.bool true), VV (.bool true), VC ((((1 : Int) : Rat) / ((2 : Int) : Rat))) (2), VC ((((1 : Int) : Rat) / ((3 : Int) : Rat))) (2), VL [(((1 : Int) : Rat) / ((2 : Int) : Rat)), (((1 : Int) : Rat) / ((3 : Int) : Rat))] (2), VC (((((1 : Int) : Rat) / ((2 : Int) : Rat))) + ((((1 : Int) : Rat) / ((3 : Int) : Rat)))) (2 * (2 + 1) + 1), VC ((((5 : Int) : Rat) / ((6 : Int) : Rat))) (2), VV (.bool true), VV (.bool true), VV (.bool true), VC (qprod []) (1), VC (1) (1), VV (.bool true), VV (.bool true), VV (.bool true), VV (.bool false), VV (.bool true), VV (.bool true), VV (.bool true), VV (.agg #[.bool s6, .slice no6 nn6 nc6, .slice eo6 en6 ec6]), VC ((((2 : Int) : Rat) / ((3 : Int) : Rat))) (2), VV (.bool true), VV (.bool true), VV (.bool true), VV (.bool true), VV (.bool true), VV (.bool true), VV (.bool false), VV (.bool true), VV (.bool true), VV (.bool true), VC (((((-1) : Int) : Rat) / ((2 : Int) : Rat))) (2), VC (qfl (((((-1) : Int) : Rat) / ((2 : Int) : Rat)))) (2 + 1), VC (((((-1) : Int) : Rat) / ((1 : Int) : Rat))) (2), VV (.bool true), VV (.bool true)])
    (by kernel_rfl) rfl (by kernel_rfl) (Below.refl _ _).drew (fun k v u u' _ hg hs => Sp.lasts HLst k v u u' hg hs) ?_ ?_
  · clear HLst
    refine ⟨.inl ⟨by simp, fun ρ u hC hc hf hd ho => ?_⟩, .inl ⟨by simp, fun ρ u hC hc hf hd ho => ?_⟩, .inl ⟨by simp, fun ρ u hC hc hf hd ho => ?_⟩, .inl ⟨guard_of rfl fun _ _ h => h, fun ρ u hC hc hf hd ho => ?_⟩, .inl ⟨guard_of rfl fun _ _ h => h, fun ρ u hC hc hf hd ho => ?_⟩, .inl ⟨guard_of rfl fun _ _ h => h, fun ρ u hC hc hf hd ho => ?_⟩, .inl ⟨guard_of rfl fun _ _ h => h, fun ρ u hC hc hf hd ho => ?_⟩, .inl ⟨by simp, fun ρ u hC hc hf hd ho => ?_⟩, .inl ⟨by simp, fun ρ u hC hc hf hd ho => ?_⟩, .inl ⟨guard_of rfl fun _ _ h => h, fun ρ u hC hc hf hd ho => ?_⟩, .inl ⟨guard_of rfl fun _ _ h => h, fun ρ u hC hc hf hd ho => ?_⟩, .inl ⟨guard_of rfl fun _ _ h => h, fun ρ u hC hc hf hd ho => ?_⟩, .inl ⟨guard_of rfl fun _ _ h => h, fun ρ u hC hc hf hd ho => ?_⟩, .inl ⟨by simp, fun ρ u hC hc hf hd ho => ?_⟩, .inl ⟨by simp, fun ρ u hC hc hf hd ho => ?_⟩, .inl ⟨guard_of rfl fun _ _ h => h, fun ρ u hC hc hf hd ho => ?_⟩, .inl ⟨guard_of rfl fun _ _ h => h, fun ρ u hC hc hf hd ho => ?_⟩, .inl ⟨guard_of rfl fun _ _ h => h, fun ρ u hC hc hf hd ho => ?_⟩, .inl ⟨guard_of rfl fun _ _ h => h, fun ρ u hC hc hf hd ho => ?_⟩, .inl ⟨guard_of rfl fun _ _ h => h, fun ρ u hC hc hf hd ho => ?_⟩, .inl ⟨guard_of rfl fun _ _ h => h, fun ρ u hC hc hf hd ho => ?_⟩, .inl ⟨by simp, fun ρ u hC hc hf hd ho => ?_⟩, .inl ⟨by simp, fun ρ u hC hc hf hd ho => ?_⟩, .inl ⟨guard_of rfl fun _ _ h => h, fun ρ u hC hc hf hd ho => ?_⟩, .inl ⟨guard_of rfl fun _ _ h => h, fun ρ u hC hc hf hd ho => ?_⟩, .inl ⟨guard_of rfl fun _ _ h => h, fun ρ u hC hc hf hd ho => ?_⟩, .inl ⟨by simp, fun ρ u hC hc hf hd ho => ?_⟩, .inl ⟨by simp, fun ρ u hC hc hf hd ho => ?_⟩, .inl ⟨guard_of rfl fun _ _ h => h, fun ρ u hC hc hf hd ho => ?_⟩, .inl ⟨guard_of rfl fun _ _ h => h, fun ρ u hC hc hf hd ho => ?_⟩, .inl ⟨by simp, fun ρ u hC hc hf hd ho => ?_⟩, .inl ⟨by simp, fun ρ u hC hc hf hd ho => ?_⟩, .inl ⟨guard_of rfl fun _ _ h => h, fun ρ u hC hc hf hd ho => ?_⟩, .inl ⟨guard_of rfl fun _ _ h => h, fun ρ u hC hc hf hd ho => ?_⟩, .inl ⟨guard_of rfl fun _ _ h => h, fun ρ u hC hc hf hd ho => ?_⟩, .inl ⟨by simp, fun ρ u hC hc hf hd ho => ?_⟩, .inl ⟨by simp, fun ρ u hC hc hf hd ho => ?_⟩, .inl ⟨guard_of rfl fun _ _ h => h, fun ρ u hC hc hf hd ho => ?_⟩, .inl ⟨by simp, fun ρ u hC hc hf hd ho => ?_⟩, .inl ⟨by simp, fun ρ u hC hc hf hd ho => ?_⟩, .inl ⟨guard_of rfl fun _ _ h => h, fun ρ u hC hc hf hd ho => ?_⟩, .inl ⟨guard_of rfl fun _ _ h => h, fun ρ u hC hc hf hd ho => ?_⟩, .inl ⟨by simp, fun ρ u hC hc hf hd ho => ?_⟩, .inl ⟨by simp, fun ρ u hC hc hf hd ho => ?_⟩, .inl ⟨guard_of rfl fun _ _ h => h, fun ρ u hC hc hf hd ho => ?_⟩, .inl ⟨guard_of rfl fun _ _ h => h, fun ρ u hC hc hf hd ho => ?_⟩, .inl ⟨guard_of rfl fun _ _ h => h, fun ρ u hC hc hf hd ho => ?_⟩, .inl ⟨guard_of rfl fun _ _ h => h, fun ρ u hC hc hf hd ho => ?_⟩, .inl ⟨by simp, fun ρ u hC hc hf hd ho => ?_⟩, trivial⟩
    · have e1 : ρ (.tmp 1) = .pointer (some ⟨g1, 0, none⟩) := ho 1 (by simp)
      refine Goes.pure (.pointer (some ⟨g1, 0, none⟩)) ?_ ⟨hC, Below.refl _ _, rfl⟩
      unfold Goes
      go_simp
    · have e25 : ρ (.tmp 25) = .pointer (some ⟨g1, 0, none⟩) := hd (0, 25) (by simp)
      obtain ⟨c0, c1, c2⟩ := (b1.later hC).cells
      refine Goes.pure (.bool true) ?_ ⟨hC, Below.refl _ _, rfl⟩
      unfold Goes
      go_simp
    · have e26 : ρ (.tmp 26) = .bool true := hd (1, 26) (by simp)
      refine Goes.pure (.bool true) ?_ ⟨hC, Below.refl _ _, rfl⟩
      unfold Goes
      go_simp
    · have e1 : ρ (.tmp 1) = .pointer (some ⟨g1, 0, none⟩) := ho 1 (by simp)
      refine Goes.pure (.pointer (some ⟨g1, 1, none⟩)) ?_ ⟨hC, Below.refl _ _, rfl⟩
      unfold Goes
      go_simp
    · have e28 : ρ (.tmp 28) = .pointer (some ⟨g1, 1, none⟩) := hd (3, 28) (by simp)
      obtain ⟨c0, c1, c2⟩ := (b1.later hC).cells
      refine Goes.pure (.slice no1 nn1 nc1) ?_ ⟨hC, Below.refl _ _, rfl⟩
      unfold Goes
      go_simp
    · obtain ⟨sl, lb⟩ := lit1 u 1 [3] #[.int .u32 3] rfl (lim1 (by omega)) rfl
      refine Goes.run (.slice (some ⟨u.heap.size, 0, none⟩) 1 1) (u.alloc (.cells #[.int .u32 3] 40)) (by go_simp) ⟨hC.trans (lb.mono hC.size), lb, ?_⟩
      exact ⟨_, 1, 1, rfl, by rw [show toL 3 = [3] from toL_is rfl (lim1 (by omega)) (.inr (by simp))]; exact sl, by omega⟩
    · have e29 : ρ (.tmp 29) = .slice no1 nn1 nc1 := hd (4, 29) (by simp)
      obtain ⟨o30, n30, c30, e30, k30, j30⟩ : VN (3) (1) (ρ (.tmp 30)) u := hd (5, 30) (by simp)
      refine Goes.call 38 #[.slice no1 nn1 nc1, .slice o30 n30 c30] (by go_simp) ?_
      refine Calls.mono (same_k (cq1.later hC).num k30 (congrArg toL (show (((6 : Int) : Rat) / (((-4) : Int) : Rat)).num.natAbs = 3 from by decide +kernel)) (by have := cq1.ln; have := cq1.ld; omega)) ?_
      rintro e u' ⟨rfl, lb⟩
      exact ⟨_, rfl, hC.trans (lb.mono hC.size), lb, rfl⟩
    · have e27 : ρ (.tmp 27) = .bool true := hd (2, 27) (by simp)
      have e31 : ρ (.tmp 31) = .bool true := hd (6, 31) (by simp)
      refine Goes.pure (.bool true) ?_ ⟨hC, Below.refl _ _, rfl⟩
      unfold Goes
      go_simp
    · have e32 : ρ (.tmp 32) = .bool true := hd (7, 32) (by simp)
      refine Goes.pure (.bool true) ?_ ⟨hC, Below.refl _ _, rfl⟩
      unfold Goes
      go_simp
    · have e1 : ρ (.tmp 1) = .pointer (some ⟨g1, 0, none⟩) := ho 1 (by simp)
      refine Goes.pure (.pointer (some ⟨g1, 2, none⟩)) ?_ ⟨hC, Below.refl _ _, rfl⟩
      unfold Goes
      go_simp
    · have e34 : ρ (.tmp 34) = .pointer (some ⟨g1, 2, none⟩) := hd (9, 34) (by simp)
      obtain ⟨c0, c1, c2⟩ := (b1.later hC).cells
      refine Goes.pure (.slice eo1 en1 ec1) ?_ ⟨hC, Below.refl _ _, rfl⟩
      unfold Goes
      go_simp
    · obtain ⟨sl, lb⟩ := lit1 u 1 [2] #[.int .u32 2] rfl (lim1 (by omega)) rfl
      refine Goes.run (.slice (some ⟨u.heap.size, 0, none⟩) 1 1) (u.alloc (.cells #[.int .u32 2] 40)) (by go_simp) ⟨hC.trans (lb.mono hC.size), lb, ?_⟩
      exact ⟨_, 1, 1, rfl, by rw [show toL 2 = [2] from toL_is rfl (lim1 (by omega)) (.inr (by simp))]; exact sl, by omega⟩
    · have e35 : ρ (.tmp 35) = .slice eo1 en1 ec1 := hd (10, 35) (by simp)
      obtain ⟨o36, n36, c36, e36, k36, j36⟩ : VN (2) (1) (ρ (.tmp 36)) u := hd (11, 36) (by simp)
      refine Goes.call 38 #[.slice eo1 en1 ec1, .slice o36 n36 c36] (by go_simp) ?_
      refine Calls.mono (same_k (cq1.later hC).den k36 (congrArg toL (show (((6 : Int) : Rat) / (((-4) : Int) : Rat)).den = 2 from by decide +kernel)) (by have := cq1.ln; have := cq1.ld; omega)) ?_
      rintro e u' ⟨rfl, lb⟩
      exact ⟨_, rfl, hC.trans (lb.mono hC.size), lb, rfl⟩
    · have e33 : ρ (.tmp 33) = .bool true := hd (8, 33) (by simp)
      have e37 : ρ (.tmp 37) = .bool true := hd (12, 37) (by simp)
      refine Goes.pure (.bool true) ?_ ⟨hC, Below.refl _ _, rfl⟩
      unfold Goes
      go_simp
    · have e38 : ρ (.tmp 38) = .bool true := hd (13, 38) (by simp)
      refine Goes.pure (.bool true) ?_ ⟨hC, Below.refl _ _, rfl⟩
      unfold Goes
      go_simp
    · refine Goes.call 21 #[.int .i64 1, .int .i64 2] (by go_simp) ?_
      refine Calls.mono (ratOf_k 1 2 (by omega) (by omega) (by omega) (by omega)) ?_
      rintro e u' ⟨s1, no1, nn1, nc1, eo1, en1, ec1, rfl, cq, lb⟩
      exact ⟨_, rfl, hC.trans (lb.mono hC.size), lb, ⟨s1, no1, nn1, nc1, eo1, en1, ec1, rfl, cq⟩⟩
    · refine Goes.call 21 #[.int .i64 1, .int .i64 3] (by go_simp) ?_
      refine Calls.mono (ratOf_k 1 3 (by omega) (by omega) (by omega) (by omega)) ?_
      rintro e u' ⟨s1, no1, nn1, nc1, eo1, en1, ec1, rfl, cq, lb⟩
      exact ⟨_, rfl, hC.trans (lb.mono hC.size), lb, ⟨s1, no1, nn1, nc1, eo1, en1, ec1, rfl, cq⟩⟩
    · obtain ⟨s40, no40, nn40, nc40, eo40, en40, ec40, e40, k40⟩ : VC ((((1 : Int) : Rat) / ((2 : Int) : Rat))) (2) (ρ (.tmp 40)) u := hd (15, 40) (by simp)
      obtain ⟨s41, no41, nn41, nc41, eo41, en41, ec41, e41, k41⟩ : VC ((((1 : Int) : Rat) / ((3 : Int) : Rat))) (2) (ρ (.tmp 41)) u := hd (16, 41) (by simp)
      have lb : Below u.heap.size u (u.alloc (.cells #[.bool s40, .slice no40 nn40 nc40, .slice eo40 en40 ec40, .bool s41, .slice no41 nn41 nc41, .slice eo41 en41 ec41] 24)) := (Below.refl _ _).alloc (Nat.le_refl _) _
      refine Goes.run (.slice (some ⟨u.heap.size, 0, none⟩) 2 2) (u.alloc (.cells #[.bool s40, .slice no40 nn40 nc40, .slice eo40 en40 ec40, .bool s41, .slice no41 nn41 nc41, .slice eo41 en41 ec41] 24)) (by go_simp) ⟨hC.trans (lb.mono hC.size), lb, ?_⟩
      exact VL.made [⟨s40, no40, nn40, nc40, eo40, en40, ec40⟩, ⟨s41, no41, nn41, nc41, eo41, en41, ec41⟩] [(((1 : Int) : Rat) / ((2 : Int) : Rat)), (((1 : Int) : Rat) / ((3 : Int) : Rat))] ⟨k40.rd.mono (by omega), k41.rd.mono (by omega), trivial⟩ _ rfl 2 rfl
    · have k42 : VL [(((1 : Int) : Rat) / ((2 : Int) : Rat)), (((1 : Int) : Rat) / ((3 : Int) : Rat))] (2) (ρ (.tmp 42)) u := hd (17, 42) (by simp)
      refine Goes.call 25 #[ρ (.tmp 42)] (by go_simp) ?_
      refine Calls.mono (ratSum_k k42 (by omega) (by simp only [List.length_cons, List.length_nil]; omega)) ?_
      rintro e u' ⟨s1, no1, nn1, nc1, eo1, en1, ec1, rfl, cq, lb⟩
      exact ⟨_, rfl, hC.trans (lb.mono hC.size), lb, ⟨s1, no1, nn1, nc1, eo1, en1, ec1, rfl, by rw [qsum2] at cq; exact cq.mono (by simp only [List.length_cons, List.length_nil]; omega)⟩⟩
    · refine Goes.call 22 #[.int .i64 5, .int .i64 6] (by go_simp) ?_
      refine Calls.mono (of3_any u 5 6 (by omega) (by omega) (by omega) (by omega)) ?_
      rintro e u' ⟨s1, no1, nn1, nc1, eo1, en1, ec1, rfl, cq, lb⟩
      exact ⟨_, rfl, hC.trans (lb.mono hC.size), lb, ⟨s1, no1, nn1, nc1, eo1, en1, ec1, rfl, cq⟩⟩
    · obtain ⟨s43, no43, nn43, nc43, eo43, en43, ec43, e43, k43⟩ : VC (((((1 : Int) : Rat) / ((2 : Int) : Rat))) + ((((1 : Int) : Rat) / ((3 : Int) : Rat)))) (2 * (2 + 1) + 1) (ρ (.tmp 43)) u := hd (18, 43) (by simp)
      obtain ⟨s44, no44, nn44, nc44, eo44, en44, ec44, e44, k44⟩ : VC ((((5 : Int) : Rat) / ((6 : Int) : Rat))) (2) (ρ (.tmp 44)) u := hd (19, 44) (by simp)
      refine Goes.call 10 #[.agg #[.bool s43, .slice no43 nn43 nc43, .slice eo43 en43 ec43], .agg #[.bool s44, .slice no44 nn44 nc44, .slice eo44 en44 ec44]] (by go_simp) ?_
      refine Calls.mono (is3_any u s43 no43 nn43 nc43 eo43 en43 ec43 s44 no44 nn44 nc44 eo44 en44 ec44 _ _ _ _ k43.num k43.den k44.num k44.den (by have := k43.ln; omega) (by have := k43.ld; omega) (by have := k44.ln; omega) (by have := k44.ld; omega)) ?_
      rintro e u' ⟨r, rfl, HR, lb⟩
      exact ⟨_, rfl, hC.trans (lb.mono hC.size), lb, by rw [HR.out.2 (cq_same k43 k44 (by decide +kernel))]; rfl⟩
    · have e39 : ρ (.tmp 39) = .bool true := hd (14, 39) (by simp)
      have e45 : ρ (.tmp 45) = .bool true := hd (20, 45) (by simp)
      refine Goes.pure (.bool true) ?_ ⟨hC, Below.refl _ _, rfl⟩
      unfold Goes
      go_simp
    · have e46 : ρ (.tmp 46) = .bool true := hd (21, 46) (by simp)
      refine Goes.pure (.bool true) ?_ ⟨hC, Below.refl _ _, rfl⟩
      unfold Goes
      go_simp
    · refine Goes.call 29 #[Value.slice none 0 0] (by go_simp) ?_
      refine Calls.mono (ratProduct_k (VL.nil 1 u) (by omega) (by simp)) ?_
      rintro e u' ⟨s1, no1, nn1, nc1, eo1, en1, ec1, rfl, cq, lb⟩
      exact ⟨_, rfl, hC.trans (lb.mono hC.size), lb, ⟨s1, no1, nn1, nc1, eo1, en1, ec1, rfl, cq.mono (by simp)⟩⟩
    · refine Goes.call 39 #[] (by go_simp) ?_
      refine Calls.mono (one3_any u) ?_
      rintro e u' ⟨s1, no1, nn1, nc1, eo1, en1, ec1, rfl, cq, lb⟩
      exact ⟨_, rfl, hC.trans (lb.mono hC.size), lb, ⟨s1, no1, nn1, nc1, eo1, en1, ec1, rfl, cq⟩⟩
    · obtain ⟨s48, no48, nn48, nc48, eo48, en48, ec48, e48, k48⟩ : VC (qprod []) (1) (ρ (.tmp 48)) u := hd (23, 48) (by simp)
      obtain ⟨s49, no49, nn49, nc49, eo49, en49, ec49, e49, k49⟩ : VC (1) (1) (ρ (.tmp 49)) u := hd (24, 49) (by simp)
      refine Goes.call 10 #[.agg #[.bool s48, .slice no48 nn48 nc48, .slice eo48 en48 ec48], .agg #[.bool s49, .slice no49 nn49 nc49, .slice eo49 en49 ec49]] (by go_simp) ?_
      refine Calls.mono (is3_any u s48 no48 nn48 nc48 eo48 en48 ec48 s49 no49 nn49 nc49 eo49 en49 ec49 _ _ _ _ k48.num k48.den k49.num k49.den (by have := k48.ln; omega) (by have := k48.ld; omega) (by have := k49.ln; omega) (by have := k49.ld; omega)) ?_
      rintro e u' ⟨r, rfl, HR, lb⟩
      exact ⟨_, rfl, hC.trans (lb.mono hC.size), lb, by rw [HR.out.2 (cq_same k48 k49 (rfl))]; rfl⟩
    · have e47 : ρ (.tmp 47) = .bool true := hd (22, 47) (by simp)
      have e50 : ρ (.tmp 50) = .bool true := hd (25, 50) (by simp)
      refine Goes.pure (.bool true) ?_ ⟨hC, Below.refl _ _, rfl⟩
      unfold Goes
      go_simp
    · have e51 : ρ (.tmp 51) = .bool true := hd (26, 51) (by simp)
      refine Goes.pure (.bool true) ?_ ⟨hC, Below.refl _ _, rfl⟩
      unfold Goes
      go_simp
    · have e3 : ρ (.tmp 3) = .bool false := ho 3 (by simp)
      refine Goes.pure (.bool false) ?_ ⟨hC, Below.refl _ _, rfl⟩
      unfold Goes
      go_simp
    · have e53 : ρ (.tmp 53) = .bool false := hd (28, 53) (by simp)
      refine Goes.pure (.bool true) ?_ ⟨hC, Below.refl _ _, rfl⟩
      unfold Goes
      go_simp
    · have e52 : ρ (.tmp 52) = .bool true := hd (27, 52) (by simp)
      have e54 : ρ (.tmp 54) = .bool true := hd (29, 54) (by simp)
      refine Goes.pure (.bool true) ?_ ⟨hC, Below.refl _ _, rfl⟩
      unfold Goes
      go_simp
    · have e55 : ρ (.tmp 55) = .bool true := hd (30, 55) (by simp)
      refine Goes.pure (.bool true) ?_ ⟨hC, Below.refl _ _, rfl⟩
      unfold Goes
      go_simp
    · have e4 : ρ (.tmp 4) = .pointer (some ⟨g4, 0, none⟩) := ho 4 (by simp)
      obtain ⟨c0, c1, c2⟩ := (b4.later hC).cells
      refine Goes.pure (.agg #[.bool s6, .slice no6 nn6 nc6, .slice eo6 en6 ec6]) ?_ ⟨hC, Below.refl _ _, rfl⟩
      unfold Goes
      go_simp
    · refine Goes.call 22 #[.int .i64 2, .int .i64 3] (by go_simp) ?_
      refine Calls.mono (of3_any u 2 3 (by omega) (by omega) (by omega) (by omega)) ?_
      rintro e u' ⟨s1, no1, nn1, nc1, eo1, en1, ec1, rfl, cq, lb⟩
      exact ⟨_, rfl, hC.trans (lb.mono hC.size), lb, ⟨s1, no1, nn1, nc1, eo1, en1, ec1, rfl, cq⟩⟩
    · have e57 : ρ (.tmp 57) = .agg #[.bool s6, .slice no6 nn6 nc6, .slice eo6 en6 ec6] := hd (32, 57) (by simp)
      obtain ⟨s58, no58, nn58, nc58, eo58, en58, ec58, e58, k58⟩ : VC ((((2 : Int) : Rat) / ((3 : Int) : Rat))) (2) (ρ (.tmp 58)) u := hd (33, 58) (by simp)
      refine Goes.call 10 #[.agg #[.bool s6, .slice no6 nn6 nc6, .slice eo6 en6 ec6], .agg #[.bool s58, .slice no58 nn58 nc58, .slice eo58 en58 ec58]] (by go_simp) ?_
      refine Calls.mono (is3_any u s6 no6 nn6 nc6 eo6 en6 ec6 s58 no58 nn58 nc58 eo58 en58 ec58 _ _ _ _ (cq6.later hC).num (cq6.later hC).den k58.num k58.den (by have := (cq6.later hC).ln; omega) (by have := (cq6.later hC).ld; omega) (by have := k58.ln; omega) (by have := k58.ld; omega)) ?_
      rintro e u' ⟨r, rfl, HR, lb⟩
      exact ⟨_, rfl, hC.trans (lb.mono hC.size), lb, by rw [HR.out.2 (cq_same (cq6.later hC) k58 (rfl))]; rfl⟩
    · have e56 : ρ (.tmp 56) = .bool true := hd (31, 56) (by simp)
      have e59 : ρ (.tmp 59) = .bool true := hd (34, 59) (by simp)
      refine Goes.pure (.bool true) ?_ ⟨hC, Below.refl _ _, rfl⟩
      unfold Goes
      go_simp
    · have e60 : ρ (.tmp 60) = .bool true := hd (35, 60) (by simp)
      refine Goes.pure (.bool true) ?_ ⟨hC, Below.refl _ _, rfl⟩
      unfold Goes
      go_simp
    · have e5 : ρ (.tmp 5) = .bool true := ho 5 (by simp)
      refine Goes.pure (.bool true) ?_ ⟨hC, Below.refl _ _, rfl⟩
      unfold Goes
      go_simp
    · have e61 : ρ (.tmp 61) = .bool true := hd (36, 61) (by simp)
      have e62 : ρ (.tmp 62) = .bool true := hd (37, 62) (by simp)
      refine Goes.pure (.bool true) ?_ ⟨hC, Below.refl _ _, rfl⟩
      unfold Goes
      go_simp
    · have e63 : ρ (.tmp 63) = .bool true := hd (38, 63) (by simp)
      refine Goes.pure (.bool true) ?_ ⟨hC, Below.refl _ _, rfl⟩
      unfold Goes
      go_simp
    · have e7 : ρ (.tmp 7) = .bool false := ho 7 (by simp)
      refine Goes.pure (.bool false) ?_ ⟨hC, Below.refl _ _, rfl⟩
      unfold Goes
      go_simp
    · have e65 : ρ (.tmp 65) = .bool false := hd (40, 65) (by simp)
      refine Goes.pure (.bool true) ?_ ⟨hC, Below.refl _ _, rfl⟩
      unfold Goes
      go_simp
    · have e64 : ρ (.tmp 64) = .bool true := hd (39, 64) (by simp)
      have e66 : ρ (.tmp 66) = .bool true := hd (41, 66) (by simp)
      refine Goes.pure (.bool true) ?_ ⟨hC, Below.refl _ _, rfl⟩
      unfold Goes
      go_simp
    · have e67 : ρ (.tmp 67) = .bool true := hd (42, 67) (by simp)
      refine Goes.pure (.bool true) ?_ ⟨hC, Below.refl _ _, rfl⟩
      unfold Goes
      go_simp
    · refine Goes.call 21 #[Value.int IntKind.i64 (-1), .int .i64 2] (by go_simp) ?_
      refine Calls.mono (ratOf_k (-1) 2 (by omega) (by omega) (by omega) (by omega)) ?_
      rintro e u' ⟨s1, no1, nn1, nc1, eo1, en1, ec1, rfl, cq, lb⟩
      exact ⟨_, rfl, hC.trans (lb.mono hC.size), lb, ⟨s1, no1, nn1, nc1, eo1, en1, ec1, rfl, cq⟩⟩
    · obtain ⟨s69, no69, nn69, nc69, eo69, en69, ec69, e69, k69⟩ : VC (((((-1) : Int) : Rat) / ((2 : Int) : Rat))) (2) (ρ (.tmp 69)) u := hd (44, 69) (by simp)
      refine Goes.call 36 #[.agg #[.bool s69, .slice no69 nn69 nc69, .slice eo69 en69 ec69]] (by go_simp) ?_
      refine Calls.mono (ratFloor_k k69.rd (by omega) (by omega)) ?_
      rintro e u' ⟨s1, no1, nn1, nc1, eo1, en1, ec1, rfl, cq, lb⟩
      exact ⟨_, rfl, hC.trans (lb.mono hC.size), lb, ⟨s1, no1, nn1, nc1, eo1, en1, ec1, rfl, cq⟩⟩
    · refine Goes.call 22 #[Value.int IntKind.i64 (-1), .int .i64 1] (by go_simp) ?_
      refine Calls.mono (of3_any u (-1) 1 (by omega) (by omega) (by omega) (by omega)) ?_
      rintro e u' ⟨s1, no1, nn1, nc1, eo1, en1, ec1, rfl, cq, lb⟩
      exact ⟨_, rfl, hC.trans (lb.mono hC.size), lb, ⟨s1, no1, nn1, nc1, eo1, en1, ec1, rfl, cq⟩⟩
    · obtain ⟨s70, no70, nn70, nc70, eo70, en70, ec70, e70, k70⟩ : VC (qfl (((((-1) : Int) : Rat) / ((2 : Int) : Rat)))) (2 + 1) (ρ (.tmp 70)) u := hd (45, 70) (by simp)
      obtain ⟨s71, no71, nn71, nc71, eo71, en71, ec71, e71, k71⟩ : VC (((((-1) : Int) : Rat) / ((1 : Int) : Rat))) (2) (ρ (.tmp 71)) u := hd (46, 71) (by simp)
      refine Goes.call 10 #[.agg #[.bool s70, .slice no70 nn70 nc70, .slice eo70 en70 ec70], .agg #[.bool s71, .slice no71 nn71 nc71, .slice eo71 en71 ec71]] (by go_simp) ?_
      refine Calls.mono (is3_any u s70 no70 nn70 nc70 eo70 en70 ec70 s71 no71 nn71 nc71 eo71 en71 ec71 _ _ _ _ k70.num k70.den k71.num k71.den (by have := k70.ln; omega) (by have := k70.ld; omega) (by have := k71.ln; omega) (by have := k71.ld; omega)) ?_
      rintro e u' ⟨r, rfl, HR, lb⟩
      exact ⟨_, rfl, hC.trans (lb.mono hC.size), lb, by rw [HR.out.2 (cq_same k70 k71 (by decide +kernel))]; rfl⟩
    · have e68 : ρ (.tmp 68) = .bool true := hd (43, 68) (by simp)
      have e72 : ρ (.tmp 72) = .bool true := hd (47, 72) (by simp)
      refine Goes.pure (.bool true) ?_ ⟨hC, Below.refl _ _, rfl⟩
      unfold Goes
      go_simp
  · intro vs u hC hv
    have eR : vs 48 = .bool true := hv 48 (by omega)
    clear hv
    simp only [puts, List.take, List.drop, Act.put, List.setIfInBounds_toArray, List.set_cons_succ, List.set_cons_zero, Nat.reduceAdd, eR]
    go_wp2
    go_ret
    exact ⟨rfl, B12.trans (hC.mono B12.size)⟩
end Go.Proofs.Ytagjjhaokhobhaa
