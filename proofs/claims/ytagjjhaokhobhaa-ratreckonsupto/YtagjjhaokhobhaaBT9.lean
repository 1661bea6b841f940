/- penumbralaw03.RatReckons: true. -/
import Derived.Test.YtagjjhaokhobhaaBT8
namespace Go.Proofs.Ytagjjhaokhobhaa
open Go.RowKit M Kahn

theorem same_sgn {r : Bool} {q p : Rat} (h : r = true ↔ q = p) : r = (qsgn (q - p) == 0) := by
  have h1 : (qsgn (q - p) == 0) = true ↔ q = p := by
    rw [beq_iff_eq, qsgn_zero]
    constructor <;> intro h <;> grind
  cases r <;> cases hh : (qsgn (q - p) == 0) <;> simp_all

set_option maxHeartbeats 8000000 in
theorem reckons_any (w : World) (s : Bool) (no : Option Addr) (nn nc : Nat) (eo : Option Addr) (en ec : Nat) (t : Bool) (mo : Option Addr) (mn mc : Nat) (fo : Option Addr) (fn fc K : Nat) (qa qb : Rat)
    (ha0 : Qn w s no nn nc eo en ec qa K) (hb0 : Qn w t mo mn mc fo fn fc qb K) (hK1 : 1 ≤ K) (hK : K ≤ 1048576) :
    Calls Try.prog 4 #[.agg #[.bool s, .slice no nn nc, .slice eo en ec], .agg #[.bool t, .slice mo mn mc, .slice fo fn fc]] w fun e w' => e = .returned (.bool true) ∧ Below w.heap.size w w' := by
  obtain ⟨w0, hw0, bx, by_, b0⟩ := box2 w (.bool s) (.slice no nn nc) (.slice eo en ec) (.bool t) (.slice mo mn mc) (.slice fo fn fc)
  have ha := ha0.later b0
  have hb := hb0.later b0
  clear ha0 hb0
  obtain ⟨g, hg⟩ : ∃ g, g = w.heap.size := ⟨_, rfl⟩
  rw [← hg] at bx by_
  obtain ⟨c0, c1, c2⟩ := bx.cells
  obtain ⟨d0, d1, d2⟩ := by_.cells
  go_enter Try.func4, Try.ntmps4
  go_wp2_with fail
  rw [← hw0, ← hg]
  clear hw0 hg
  generalize hok : decide (qb ≠ 0) = ok
  refine (ratDiv_k ha hb hK1 hK1 (by omega)).mono ?_
  rintro e w1 ⟨s1, no1, nn1, nc1, eo1, en1, ec1, rfl, cq, lb⟩
  rw [hok]
  have b5 : Rb (w1.alloc (.cells #[.bool s1, .slice no1 nn1 nc1, .slice eo1 en1 ec1] 24)) w1.heap.size (.bool s1) (.slice no1 nn1 nc1) (.slice eo1 en1 ec1) := ⟨heap_alloc_new _ _⟩
  have l2 : Below w1.heap.size w1 (w1.alloc (.cells #[.bool s1, .slice no1 nn1 nc1, .slice eo1 en1 ec1] 24)) := (Below.refl _ _).alloc (Nat.le_refl _) _
  replace ha := (ha.later lb).later l2
  replace hb := (hb.later lb).later l2
  replace bx := (bx.later lb).later l2
  replace by_ := (by_.later lb).later l2
  replace cq := cq.later l2
  have bb2 := (b0.trans (lb.mono b0.size)).trans (l2.mono (by have := b0.size; have := lb.size; omega))
  clear c0 c1 c2 d0 d1 d2 lb b0 l2
  obtain ⟨c0, c1, c2⟩ := bx.cells
  obtain ⟨d0, d1, d2⟩ := by_.cells
  go_wp2_with fail
  generalize w1.heap.size = g5 at *
  generalize w1.alloc (.cells #[.bool s1, .slice no1 nn1 nc1, .slice eo1 en1 ec1] 24) = w2 at *
  refine (div3_any w2 s no nn nc eo en ec t mo mn mc fo fn fc K K qa qb ha hb hK1 hK1 (by omega)).mono ?_
  rintro e w3 ⟨s2, no2, nn2, nc2, eo2, en2, ec2, rfl, cp, lb⟩
  rw [hok]
  have b7 : Rb (w3.alloc (.cells #[.bool s2, .slice no2 nn2 nc2, .slice eo2 en2 ec2] 24)) w3.heap.size (.bool s2) (.slice no2 nn2 nc2) (.slice eo2 en2 ec2) := ⟨heap_alloc_new _ _⟩
  have l4 : Below w3.heap.size w3 (w3.alloc (.cells #[.bool s2, .slice no2 nn2 nc2, .slice eo2 en2 ec2] 24)) := (Below.refl _ _).alloc (Nat.le_refl _) _
  replace ha := (ha.later lb).later l4
  replace hb := (hb.later lb).later l4
  replace bx := (bx.later lb).later l4
  replace by_ := (by_.later lb).later l4
  replace b5 := (b5.later lb).later l4
  replace cq := (cq.later lb).later l4
  replace cp := cp.later l4
  have bb4 := (bb2.trans (lb.mono bb2.size)).trans (l4.mono (by have := bb2.size; have := lb.size; omega))
  clear c0 c1 c2 d0 d1 d2 lb bb2 l4 hok
  go_wp2
  generalize w3.heap.size = g7 at *
  generalize w3.alloc (.cells #[.bool s2, .slice no2 nn2 nc2, .slice eo2 en2 ec2] 24) = w4 at *
  have HLst : Lst [VV (.bool true), VV (.bool true), VV (.agg #[.bool s, .slice no nn nc, .slice eo en ec]), VV (.agg #[.bool t, .slice mo mn mc, .slice fo fn fc]), VL [qa, qb] (K), VC (qa + qb) (2 * (K + 1) + 1), VV (.agg #[.bool s, .slice no nn nc, .slice eo en ec]), VV (.agg #[.bool t, .slice mo mn mc, .slice fo fn fc]), VC (qa + qb) (K + (K) + 1), VV (.bool true), VV (.bool true), VV (.bool true), VV (.agg #[.bool s, .slice no nn nc, .slice eo en ec]), VV (.agg #[.bool t, .slice mo mn mc, .slice fo fn fc]), VC (qa - (qb)) (K + (K) + 1), VV (.agg #[.bool s, .slice no nn nc, .slice eo en ec]), VV (.agg #[.bool t, .slice mo mn mc, .slice fo fn fc]), VC (qa - (qb)) (K + (K) + 1), VV (.bool true), VV (.bool true), VV (.bool true), VV (.agg #[.bool s, .slice no nn nc, .slice eo en ec]), VV (.agg #[.bool t, .slice mo mn mc, .slice fo fn fc]), VL [qa, qb] (K), VC (qa * qb) (2 * (K + 1) + 1), VV (.agg #[.bool s, .slice no nn nc, .slice eo en ec]), VV (.agg #[.bool t, .slice mo mn mc, .slice fo fn fc]), VC ((qa) * (qb)) (K + (K)), VV (.bool true), VV (.bool true), VV (.bool true), VV (.agg #[.bool s1, .slice no1 nn1 nc1, .slice eo1 en1 ec1]), VV (.agg #[.bool s2, .slice no2 nn2 nc2, .slice eo2 en2 ec2]), VV (.bool true), VV (.bool true), VV (.bool true), VV (.bool ok), VV (.bool ok), VV (.bool true), VV (.bool true), VV (.bool true), VV (.agg #[.bool s, .slice no nn nc, .slice eo en ec]), VV (.agg #[.bool t, .slice mo mn mc, .slice fo fn fc]), VV (.int .i64 (qsgn (qa - (qb)))), VV (.agg #[.bool s, .slice no nn nc, .slice eo en ec]), VV (.agg #[.bool t, .slice mo mn mc, .slice fo fn fc]), VV (.int .i64 (qsgn (qa - (qb)))), VV (.bool true), VV (.bool true), VV (.bool true), VV (.agg #[.bool s, .slice no nn nc, .slice eo en ec]), VV (.agg #[.bool t, .slice mo mn mc, .slice fo fn fc]), VB (qa = qb), VV (.agg #[.bool s, .slice no nn nc, .slice eo en ec]), VV (.agg #[.bool t, .slice mo mn mc, .slice fo fn fc]), VV (.int .i64 (qsgn (qa - (qb)))), VV (.bool (qsgn (qa - (qb)) == 0)), VV (.bool true), VV (.bool true)] := ⟨VV.lasts _, VV.lasts _, VV.lasts _, VV.lasts _, VL.lasts _ _, VC.lasts _ _, VV.lasts _, VV.lasts _, VC.lasts _ _, VV.lasts _, VV.lasts _, VV.lasts _, VV.lasts _, VV.lasts _, VC.lasts _ _, VV.lasts _, VV.lasts _, VC.lasts _ _, VV.lasts _, VV.lasts _, VV.lasts _, VV.lasts _, VV.lasts _, VL.lasts _ _, VC.lasts _ _, VV.lasts _, VV.lasts _, VC.lasts _ _, VV.lasts _, VV.lasts _, VV.lasts _, VV.lasts _, VV.lasts _, VV.lasts _, VV.lasts _, VV.lasts _, VV.lasts _, VV.lasts _, VV.lasts _, VV.lasts _, VV.lasts _, VV.lasts _, VV.lasts _, VV.lasts _, VV.lasts _, VV.lasts _, VV.lasts _, VV.lasts _, VV.lasts _, VV.lasts _, VV.lasts _, VV.lasts _, VB.lasts _, VV.lasts _, VV.lasts _, VV.lasts _, VV.lasts _, VV.lasts _, VV.lasts _, trivial⟩
  refine wp_region_kahn 59 80 [([], []), ([(0, 21)], []), ([], [2]), ([], [3]), ([(2, 23), (3, 24)], []), ([(4, 25)], []), ([], [2]), ([], [3]), ([(6, 27), (7, 28)], []), ([(5, 26), (8, 29)], []), ([(1, 22), (9, 30)], []), ([(10, 31)], []), ([], [2]), ([], [3]), ([(12, 33), (13, 34)], []), ([], [2]), ([], [3]), ([(15, 36), (16, 37)], []), ([(14, 35), (17, 38)], []), ([(11, 32), (18, 39)], []), ([(19, 40)], []), ([], [2]), ([], [3]), ([(21, 42), (22, 43)], []), ([(23, 44)], []), ([], [2]), ([], [3]), ([(25, 46), (26, 47)], []), ([(24, 45), (27, 48)], []), ([(20, 41), (28, 49)], []), ([(29, 50)], []), ([], [5]), ([], [7]), ([(31, 52), (32, 53)], []), ([(30, 51), (33, 54)], []), ([(34, 55)], []), ([], [6]), ([], [8]), ([(36, 57), (37, 58)], []), ([(35, 56), (38, 59)], []), ([(39, 60)], []), ([], [2]), ([], [3]), ([(41, 62), (42, 63)], []), ([], [2]), ([], [3]), ([(44, 65), (45, 66)], []), ([(43, 64), (46, 67)], []), ([(40, 61), (47, 68)], []), ([(48, 69)], []), ([], [2]), ([], [3]), ([(50, 71), (51, 72)], []), ([], [2]), ([], [3]), ([(53, 74), (54, 75)], []), ([(55, 76)], []), ([(52, 73), (56, 77)], []), ([(49, 70), (57, 78)], [])]
    (fun u => Below w4.heap.size w4 u) (fun u u' => Below u.heap.size u u')
    (Sp [VV (.bool true), VV (.bool true), VV (.agg #[.bool s, .slice no nn nc, .slice eo en ec]), VV (.agg #[.bool t, .slice mo mn mc, .slice fo fn fc]), VL [qa, qb] (K), VC (qa + qb) (2 * (K + 1) + 1), VV (.agg #[.bool s, .slice no nn nc, .slice eo en ec]), VV (.agg #[.bool t, .slice mo mn mc, .slice fo fn fc]), VC (qa + qb) (K + (K) + 1), VV (.bool true), VV (.bool true), VV (.bool true), VV (.agg #[.bool s, .slice no nn nc, .slice eo en ec]), VV (.agg #[.bool t, .slice mo mn mc, .slice fo fn fc]), VC (qa - (qb)) (K + (K) + 1), VV (.agg #[.bool s, .slice no nn nc, .slice eo en ec]), VV (.agg #[.bool t, .slice mo mn mc, .slice fo fn fc]), VC (qa - (qb)) (K + (K) + 1), VV (.bool true), VV (.bool true), VV (.bool true), VV (.agg #[.bool s, .slice no nn nc, .slice eo en ec]), VV (.agg #[.bool t, .slice mo mn mc, .slice fo fn fc]), VL [qa, qb] (K), VC (qa * qb) (2 * (K + 1) + 1), VV (.agg #[.bool s, .slice no nn nc, .slice eo en ec]), VV (.agg #[.bool t, .slice mo mn mc, .slice fo fn fc]), VC ((qa) * (qb)) (K + (K)), VV (.bool true), VV (.bool true), VV (.bool true), VV (.agg #[.bool s1, .slice no1 nn1 nc1, .slice eo1 en1 ec1]), VV (.agg #[.bool s2, .slice no2 nn2 nc2, .slice eo2 en2 ec2]), VV (.bool true), VV (.bool true), VV (.bool true), VV (.bool ok), VV (.bool ok), VV (.bool true), VV (.bool true), VV (.bool true), VV (.agg #[.bool s, .slice no nn nc, .slice eo en ec]), VV (.agg #[.bool t, .slice mo mn mc, .slice fo fn fc]), VV (.int .i64 (qsgn (qa - (qb)))), VV (.agg #[.bool s, .slice no nn nc, .slice eo en ec]), VV (.agg #[.bool t, .slice mo mn mc, .slice fo fn fc]), VV (.int .i64 (qsgn (qa - (qb)))), VV (.bool true), VV (.bool true), VV (.bool true), VV (.agg #[.bool s, .slice no nn nc, .slice eo en ec]), VV (.agg #[.bool t, .slice mo mn mc, .slice fo fn fc]), VB (qa = qb), VV (.agg #[.bool s, .slice no nn nc, .slice eo en ec]), VV (.agg #[.bool t, .slice mo mn mc, .slice fo fn fc]), VV (.int .i64 (qsgn (qa - (qb)))), VV (.bool (qsgn (qa - (qb)) == 0)), VV (.bool true), VV (.bool true)])
    (by kernel_rfl) rfl (by kernel_rfl) (Below.refl _ _).drew (fun k v u u' _ hg hs => Sp.lasts HLst k v u u' hg hs) ?_ ?_
  · clear HLst
    refine ⟨.inl ⟨by simp, fun ρ u hC hc hf hd ho => ?_⟩, .inl ⟨by simp, fun ρ u hC hc hf hd ho => ?_⟩, .inl ⟨guard_of rfl fun _ _ h => h, fun ρ u hC hc hf hd ho => ?_⟩, .inl ⟨guard_of rfl fun _ _ h => h, fun ρ u hC hc hf hd ho => ?_⟩, .inl ⟨guard_of rfl fun _ _ h => h, fun ρ u hC hc hf hd ho => ?_⟩, .inl ⟨guard_of rfl fun _ _ h => h, fun ρ u hC hc hf hd ho => ?_⟩, .inl ⟨guard_of rfl fun _ _ h => h, fun ρ u hC hc hf hd ho => ?_⟩, .inl ⟨guard_of rfl fun _ _ h => h, fun ρ u hC hc hf hd ho => ?_⟩, .inl ⟨guard_of rfl fun _ _ h => h, fun ρ u hC hc hf hd ho => ?_⟩, .inl ⟨guard_of rfl fun _ _ h => h, fun ρ u hC hc hf hd ho => ?_⟩, .inl ⟨by simp, fun ρ u hC hc hf hd ho => ?_⟩, .inl ⟨by simp, fun ρ u hC hc hf hd ho => ?_⟩, .inl ⟨guard_of rfl fun _ _ h => h, fun ρ u hC hc hf hd ho => ?_⟩, .inl ⟨guard_of rfl fun _ _ h => h, fun ρ u hC hc hf hd ho => ?_⟩, .inl ⟨guard_of rfl fun _ _ h => h, fun ρ u hC hc hf hd ho => ?_⟩, .inl ⟨guard_of rfl fun _ _ h => h, fun ρ u hC hc hf hd ho => ?_⟩, .inl ⟨guard_of rfl fun _ _ h => h, fun ρ u hC hc hf hd ho => ?_⟩, .inl ⟨guard_of rfl fun _ _ h => h, fun ρ u hC hc hf hd ho => ?_⟩, .inl ⟨guard_of rfl fun _ _ h => h, fun ρ u hC hc hf hd ho => ?_⟩, .inl ⟨by simp, fun ρ u hC hc hf hd ho => ?_⟩, .inl ⟨by simp, fun ρ u hC hc hf hd ho => ?_⟩, .inl ⟨guard_of rfl fun _ _ h => h, fun ρ u hC hc hf hd ho => ?_⟩, .inl ⟨guard_of rfl fun _ _ h => h, fun ρ u hC hc hf hd ho => ?_⟩, .inl ⟨guard_of rfl fun _ _ h => h, fun ρ u hC hc hf hd ho => ?_⟩, .inl ⟨guard_of rfl fun _ _ h => h, fun ρ u hC hc hf hd ho => ?_⟩, .inl ⟨guard_of rfl fun _ _ h => h, fun ρ u hC hc hf hd ho => ?_⟩, .inl ⟨guard_of rfl fun _ _ h => h, fun ρ u hC hc hf hd ho => ?_⟩, .inl ⟨guard_of rfl fun _ _ h => h, fun ρ u hC hc hf hd ho => ?_⟩, .inl ⟨guard_of rfl fun _ _ h => h, fun ρ u hC hc hf hd ho => ?_⟩, .inl ⟨by simp, fun ρ u hC hc hf hd ho => ?_⟩, .inl ⟨by simp, fun ρ u hC hc hf hd ho => ?_⟩, .inl ⟨guard_of rfl fun _ _ h => h, fun ρ u hC hc hf hd ho => ?_⟩, .inl ⟨guard_of rfl fun _ _ h => h, fun ρ u hC hc hf hd ho => ?_⟩, .inl ⟨guard_of rfl fun _ _ h => h, fun ρ u hC hc hf hd ho => ?_⟩, .inl ⟨by simp, fun ρ u hC hc hf hd ho => ?_⟩, .inl ⟨by simp, fun ρ u hC hc hf hd ho => ?_⟩, .inl ⟨guard_of rfl fun _ _ h => h, fun ρ u hC hc hf hd ho => ?_⟩, .inl ⟨guard_of rfl fun _ _ h => h, fun ρ u hC hc hf hd ho => ?_⟩, .inl ⟨guard_of rfl fun _ _ h => h, fun ρ u hC hc hf hd ho => ?_⟩, .inl ⟨by simp, fun ρ u hC hc hf hd ho => ?_⟩, .inl ⟨by simp, fun ρ u hC hc hf hd ho => ?_⟩, .inl ⟨guard_of rfl fun _ _ h => h, fun ρ u hC hc hf hd ho => ?_⟩, .inl ⟨guard_of rfl fun _ _ h => h, fun ρ u hC hc hf hd ho => ?_⟩, .inl ⟨guard_of rfl fun _ _ h => h, fun ρ u hC hc hf hd ho => ?_⟩, .inl ⟨guard_of rfl fun _ _ h => h, fun ρ u hC hc hf hd ho => ?_⟩, .inl ⟨guard_of rfl fun _ _ h => h, fun ρ u hC hc hf hd ho => ?_⟩, .inl ⟨guard_of rfl fun _ _ h => h, fun ρ u hC hc hf hd ho => ?_⟩, .inl ⟨guard_of rfl fun _ _ h => h, fun ρ u hC hc hf hd ho => ?_⟩, .inl ⟨by simp, fun ρ u hC hc hf hd ho => ?_⟩, .inl ⟨by simp, fun ρ u hC hc hf hd ho => ?_⟩, .inl ⟨guard_of rfl fun _ _ h => h, fun ρ u hC hc hf hd ho => ?_⟩, .inl ⟨guard_of rfl fun _ _ h => h, fun ρ u hC hc hf hd ho => ?_⟩, .inl ⟨guard_of rfl fun _ _ h => h, fun ρ u hC hc hf hd ho => ?_⟩, .inl ⟨guard_of rfl fun _ _ h => h, fun ρ u hC hc hf hd ho => ?_⟩, .inl ⟨guard_of rfl fun _ _ h => h, fun ρ u hC hc hf hd ho => ?_⟩, .inl ⟨guard_of rfl fun _ _ h => h, fun ρ u hC hc hf hd ho => ?_⟩, .inl ⟨guard_of rfl fun _ _ h => h, fun ρ u hC hc hf hd ho => ?_⟩, .inl ⟨guard_of rfl fun _ _ h => h, fun ρ u hC hc hf hd ho => ?_⟩, .inl ⟨by simp, fun ρ u hC hc hf hd ho => ?_⟩, trivial⟩
    · refine Goes.call 9 #[] (by go_simp) ?_
      refine Calls.mono (fixed3_any u) ?_
      rintro e u' ⟨rfl, lb⟩
      exact ⟨_, rfl, hC.trans (lb.mono hC.size), lb, rfl⟩
    · have e21 : ρ (.tmp 21) = .bool true := hd (0, 21) (by simp)
      refine Goes.pure (.bool true) ?_ ⟨hC, Below.refl _ _, rfl⟩
      unfold Goes
      go_simp
    · have e2 : ρ (.tmp 2) = .pointer (some ⟨g, 0, none⟩) := ho 2 (by simp)
      obtain ⟨c0, c1, c2⟩ := (bx.later hC).cells
      refine Goes.pure (.agg #[.bool s, .slice no nn nc, .slice eo en ec]) ?_ ⟨hC, Below.refl _ _, rfl⟩
      unfold Goes
      go_simp
    · have e3 : ρ (.tmp 3) = .pointer (some ⟨g + 1, 0, none⟩) := ho 3 (by simp)
      obtain ⟨c0, c1, c2⟩ := (by_.later hC).cells
      refine Goes.pure (.agg #[.bool t, .slice mo mn mc, .slice fo fn fc]) ?_ ⟨hC, Below.refl _ _, rfl⟩
      unfold Goes
      go_simp
    · have e23 : ρ (.tmp 23) = .agg #[.bool s, .slice no nn nc, .slice eo en ec] := hd (2, 23) (by simp)
      have e24 : ρ (.tmp 24) = .agg #[.bool t, .slice mo mn mc, .slice fo fn fc] := hd (3, 24) (by simp)
      have lb : Below u.heap.size u (u.alloc (.cells #[.bool s, .slice no nn nc, .slice eo en ec, .bool t, .slice mo mn mc, .slice fo fn fc] 24)) := (Below.refl _ _).alloc (Nat.le_refl _) _
      refine Goes.run (.slice (some ⟨u.heap.size, 0, none⟩) 2 2) (u.alloc (.cells #[.bool s, .slice no nn nc, .slice eo en ec, .bool t, .slice mo mn mc, .slice fo fn fc] 24)) (by go_simp) ⟨hC.trans (lb.mono hC.size), lb, ?_⟩
      exact VL.made [⟨s, no, nn, nc, eo, en, ec⟩, ⟨t, mo, mn, mc, fo, fn, fc⟩] [qa, qb] ⟨(ha.later hC).mono (by omega), (hb.later hC).mono (by omega), trivial⟩ _ rfl 2 rfl
    · have k25 : VL [qa, qb] (K) (ρ (.tmp 25)) u := hd (4, 25) (by simp)
      refine Goes.call 25 #[ρ (.tmp 25)] (by go_simp) ?_
      refine Calls.mono (ratSum_k k25 (by omega) (by simp only [List.length_cons, List.length_nil]; omega)) ?_
      rintro e u' ⟨s1, no1, nn1, nc1, eo1, en1, ec1, rfl, cq, lb⟩
      exact ⟨_, rfl, hC.trans (lb.mono hC.size), lb, ⟨s1, no1, nn1, nc1, eo1, en1, ec1, rfl, by rw [qsum2] at cq; exact cq.mono (by simp only [List.length_cons, List.length_nil]; omega)⟩⟩
    · have e2 : ρ (.tmp 2) = .pointer (some ⟨g, 0, none⟩) := ho 2 (by simp)
      obtain ⟨c0, c1, c2⟩ := (bx.later hC).cells
      refine Goes.pure (.agg #[.bool s, .slice no nn nc, .slice eo en ec]) ?_ ⟨hC, Below.refl _ _, rfl⟩
      unfold Goes
      go_simp
    · have e3 : ρ (.tmp 3) = .pointer (some ⟨g + 1, 0, none⟩) := ho 3 (by simp)
      obtain ⟨c0, c1, c2⟩ := (by_.later hC).cells
      refine Goes.pure (.agg #[.bool t, .slice mo mn mc, .slice fo fn fc]) ?_ ⟨hC, Below.refl _ _, rfl⟩
      unfold Goes
      go_simp
    · have e27 : ρ (.tmp 27) = .agg #[.bool s, .slice no nn nc, .slice eo en ec] := hd (6, 27) (by simp)
      have e28 : ρ (.tmp 28) = .agg #[.bool t, .slice mo mn mc, .slice fo fn fc] := hd (7, 28) (by simp)
      refine Goes.call 26 #[.agg #[.bool s, .slice no nn nc, .slice eo en ec], .agg #[.bool t, .slice mo mn mc, .slice fo fn fc]] (by go_simp) ?_
      refine Calls.mono (add3_any u s no nn nc eo en ec t mo mn mc fo fn fc (K) (K) (qa) (qb) (ha.later hC) (hb.later hC) (by omega) (by omega) (by omega)) ?_
      rintro e u' ⟨s1, no1, nn1, nc1, eo1, en1, ec1, rfl, cq, lb⟩
      exact ⟨_, rfl, hC.trans (lb.mono hC.size), lb, ⟨s1, no1, nn1, nc1, eo1, en1, ec1, rfl, cq⟩⟩
    · obtain ⟨s26, no26, nn26, nc26, eo26, en26, ec26, e26, k26⟩ : VC (qa + qb) (2 * (K + 1) + 1) (ρ (.tmp 26)) u := hd (5, 26) (by simp)
      obtain ⟨s29, no29, nn29, nc29, eo29, en29, ec29, e29, k29⟩ : VC (qa + qb) (K + (K) + 1) (ρ (.tmp 29)) u := hd (8, 29) (by simp)
      refine Goes.call 10 #[.agg #[.bool s26, .slice no26 nn26 nc26, .slice eo26 en26 ec26], .agg #[.bool s29, .slice no29 nn29 nc29, .slice eo29 en29 ec29]] (by go_simp) ?_
      refine Calls.mono (is3_any u s26 no26 nn26 nc26 eo26 en26 ec26 s29 no29 nn29 nc29 eo29 en29 ec29 _ _ _ _ k26.num k26.den k29.num k29.den (by have := k26.ln; omega) (by have := k26.ld; omega) (by have := k29.ln; omega) (by have := k29.ld; omega)) ?_
      rintro e u' ⟨r, rfl, HR, lb⟩
      exact ⟨_, rfl, hC.trans (lb.mono hC.size), lb, by rw [HR.out.2 (cq_same k26 k29 (rfl))]; rfl⟩
    · have e22 : ρ (.tmp 22) = .bool true := hd (1, 22) (by simp)
      have e30 : ρ (.tmp 30) = .bool true := hd (9, 30) (by simp)
      refine Goes.pure (.bool true) ?_ ⟨hC, Below.refl _ _, rfl⟩
      unfold Goes
      go_simp
    · have e31 : ρ (.tmp 31) = .bool true := hd (10, 31) (by simp)
      refine Goes.pure (.bool true) ?_ ⟨hC, Below.refl _ _, rfl⟩
      unfold Goes
      go_simp
    · have e2 : ρ (.tmp 2) = .pointer (some ⟨g, 0, none⟩) := ho 2 (by simp)
      obtain ⟨c0, c1, c2⟩ := (bx.later hC).cells
      refine Goes.pure (.agg #[.bool s, .slice no nn nc, .slice eo en ec]) ?_ ⟨hC, Below.refl _ _, rfl⟩
      unfold Goes
      go_simp
    · have e3 : ρ (.tmp 3) = .pointer (some ⟨g + 1, 0, none⟩) := ho 3 (by simp)
      obtain ⟨c0, c1, c2⟩ := (by_.later hC).cells
      refine Goes.pure (.agg #[.bool t, .slice mo mn mc, .slice fo fn fc]) ?_ ⟨hC, Below.refl _ _, rfl⟩
      unfold Goes
      go_simp
    · have e33 : ρ (.tmp 33) = .agg #[.bool s, .slice no nn nc, .slice eo en ec] := hd (12, 33) (by simp)
      have e34 : ρ (.tmp 34) = .agg #[.bool t, .slice mo mn mc, .slice fo fn fc] := hd (13, 34) (by simp)
      refine Goes.call 27 #[.agg #[.bool s, .slice no nn nc, .slice eo en ec], .agg #[.bool t, .slice mo mn mc, .slice fo fn fc]] (by go_simp) ?_
      refine Calls.mono (ratSub_k (ha.later hC) (hb.later hC) (by omega) (by omega) (by omega)) ?_
      rintro e u' ⟨s1, no1, nn1, nc1, eo1, en1, ec1, rfl, cq, lb⟩
      exact ⟨_, rfl, hC.trans (lb.mono hC.size), lb, ⟨s1, no1, nn1, nc1, eo1, en1, ec1, rfl, cq⟩⟩
    · have e2 : ρ (.tmp 2) = .pointer (some ⟨g, 0, none⟩) := ho 2 (by simp)
      obtain ⟨c0, c1, c2⟩ := (bx.later hC).cells
      refine Goes.pure (.agg #[.bool s, .slice no nn nc, .slice eo en ec]) ?_ ⟨hC, Below.refl _ _, rfl⟩
      unfold Goes
      go_simp
    · have e3 : ρ (.tmp 3) = .pointer (some ⟨g + 1, 0, none⟩) := ho 3 (by simp)
      obtain ⟨c0, c1, c2⟩ := (by_.later hC).cells
      refine Goes.pure (.agg #[.bool t, .slice mo mn mc, .slice fo fn fc]) ?_ ⟨hC, Below.refl _ _, rfl⟩
      unfold Goes
      go_simp
    · have e36 : ρ (.tmp 36) = .agg #[.bool s, .slice no nn nc, .slice eo en ec] := hd (15, 36) (by simp)
      have e37 : ρ (.tmp 37) = .agg #[.bool t, .slice mo mn mc, .slice fo fn fc] := hd (16, 37) (by simp)
      refine Goes.call 28 #[.agg #[.bool s, .slice no nn nc, .slice eo en ec], .agg #[.bool t, .slice mo mn mc, .slice fo fn fc]] (by go_simp) ?_
      refine Calls.mono (sub3_any u s no nn nc eo en ec t mo mn mc fo fn fc (K) (K) (qa) (qb) (ha.later hC) (hb.later hC) (by omega) (by omega) (by omega)) ?_
      rintro e u' ⟨s1, no1, nn1, nc1, eo1, en1, ec1, rfl, cq, lb⟩
      exact ⟨_, rfl, hC.trans (lb.mono hC.size), lb, ⟨s1, no1, nn1, nc1, eo1, en1, ec1, rfl, cq⟩⟩
    · obtain ⟨s35, no35, nn35, nc35, eo35, en35, ec35, e35, k35⟩ : VC (qa - (qb)) (K + (K) + 1) (ρ (.tmp 35)) u := hd (14, 35) (by simp)
      obtain ⟨s38, no38, nn38, nc38, eo38, en38, ec38, e38, k38⟩ : VC (qa - (qb)) (K + (K) + 1) (ρ (.tmp 38)) u := hd (17, 38) (by simp)
      refine Goes.call 10 #[.agg #[.bool s35, .slice no35 nn35 nc35, .slice eo35 en35 ec35], .agg #[.bool s38, .slice no38 nn38 nc38, .slice eo38 en38 ec38]] (by go_simp) ?_
      refine Calls.mono (is3_any u s35 no35 nn35 nc35 eo35 en35 ec35 s38 no38 nn38 nc38 eo38 en38 ec38 _ _ _ _ k35.num k35.den k38.num k38.den (by have := k35.ln; omega) (by have := k35.ld; omega) (by have := k38.ln; omega) (by have := k38.ld; omega)) ?_
      rintro e u' ⟨r, rfl, HR, lb⟩
      exact ⟨_, rfl, hC.trans (lb.mono hC.size), lb, by rw [HR.out.2 (cq_same k35 k38 (rfl))]; rfl⟩
    · have e32 : ρ (.tmp 32) = .bool true := hd (11, 32) (by simp)
      have e39 : ρ (.tmp 39) = .bool true := hd (18, 39) (by simp)
      refine Goes.pure (.bool true) ?_ ⟨hC, Below.refl _ _, rfl⟩
      unfold Goes
      go_simp
    · have e40 : ρ (.tmp 40) = .bool true := hd (19, 40) (by simp)
      refine Goes.pure (.bool true) ?_ ⟨hC, Below.refl _ _, rfl⟩
      unfold Goes
      go_simp
    · have e2 : ρ (.tmp 2) = .pointer (some ⟨g, 0, none⟩) := ho 2 (by simp)
      obtain ⟨c0, c1, c2⟩ := (bx.later hC).cells
      refine Goes.pure (.agg #[.bool s, .slice no nn nc, .slice eo en ec]) ?_ ⟨hC, Below.refl _ _, rfl⟩
      unfold Goes
      go_simp
    · have e3 : ρ (.tmp 3) = .pointer (some ⟨g + 1, 0, none⟩) := ho 3 (by simp)
      obtain ⟨c0, c1, c2⟩ := (by_.later hC).cells
      refine Goes.pure (.agg #[.bool t, .slice mo mn mc, .slice fo fn fc]) ?_ ⟨hC, Below.refl _ _, rfl⟩
      unfold Goes
      go_simp
    · have e42 : ρ (.tmp 42) = .agg #[.bool s, .slice no nn nc, .slice eo en ec] := hd (21, 42) (by simp)
      have e43 : ρ (.tmp 43) = .agg #[.bool t, .slice mo mn mc, .slice fo fn fc] := hd (22, 43) (by simp)
      have lb : Below u.heap.size u (u.alloc (.cells #[.bool s, .slice no nn nc, .slice eo en ec, .bool t, .slice mo mn mc, .slice fo fn fc] 24)) := (Below.refl _ _).alloc (Nat.le_refl _) _
      refine Goes.run (.slice (some ⟨u.heap.size, 0, none⟩) 2 2) (u.alloc (.cells #[.bool s, .slice no nn nc, .slice eo en ec, .bool t, .slice mo mn mc, .slice fo fn fc] 24)) (by go_simp) ⟨hC.trans (lb.mono hC.size), lb, ?_⟩
      exact VL.made [⟨s, no, nn, nc, eo, en, ec⟩, ⟨t, mo, mn, mc, fo, fn, fc⟩] [qa, qb] ⟨(ha.later hC).mono (by omega), (hb.later hC).mono (by omega), trivial⟩ _ rfl 2 rfl
    · have k44 : VL [qa, qb] (K) (ρ (.tmp 44)) u := hd (23, 44) (by simp)
      refine Goes.call 29 #[ρ (.tmp 44)] (by go_simp) ?_
      refine Calls.mono (ratProduct_k k44 (by omega) (by simp only [List.length_cons, List.length_nil]; omega)) ?_
      rintro e u' ⟨s1, no1, nn1, nc1, eo1, en1, ec1, rfl, cq, lb⟩
      exact ⟨_, rfl, hC.trans (lb.mono hC.size), lb, ⟨s1, no1, nn1, nc1, eo1, en1, ec1, rfl, by rw [qprod2] at cq; exact cq.mono (by simp only [List.length_cons, List.length_nil]; omega)⟩⟩
    · have e2 : ρ (.tmp 2) = .pointer (some ⟨g, 0, none⟩) := ho 2 (by simp)
      obtain ⟨c0, c1, c2⟩ := (bx.later hC).cells
      refine Goes.pure (.agg #[.bool s, .slice no nn nc, .slice eo en ec]) ?_ ⟨hC, Below.refl _ _, rfl⟩
      unfold Goes
      go_simp
    · have e3 : ρ (.tmp 3) = .pointer (some ⟨g + 1, 0, none⟩) := ho 3 (by simp)
      obtain ⟨c0, c1, c2⟩ := (by_.later hC).cells
      refine Goes.pure (.agg #[.bool t, .slice mo mn mc, .slice fo fn fc]) ?_ ⟨hC, Below.refl _ _, rfl⟩
      unfold Goes
      go_simp
    · have e46 : ρ (.tmp 46) = .agg #[.bool s, .slice no nn nc, .slice eo en ec] := hd (25, 46) (by simp)
      have e47 : ρ (.tmp 47) = .agg #[.bool t, .slice mo mn mc, .slice fo fn fc] := hd (26, 47) (by simp)
      refine Goes.call 30 #[.agg #[.bool s, .slice no nn nc, .slice eo en ec], .agg #[.bool t, .slice mo mn mc, .slice fo fn fc]] (by go_simp) ?_
      refine Calls.mono (mul3_any u s no nn nc eo en ec t mo mn mc fo fn fc (K) (K) (qa) (qb) (ha.later hC) (hb.later hC) (by omega) (by omega)) ?_
      rintro e u' ⟨s1, no1, nn1, nc1, eo1, en1, ec1, rfl, cq, lb⟩
      exact ⟨_, rfl, hC.trans (lb.mono hC.size), lb, ⟨s1, no1, nn1, nc1, eo1, en1, ec1, rfl, cq⟩⟩
    · obtain ⟨s45, no45, nn45, nc45, eo45, en45, ec45, e45, k45⟩ : VC (qa * qb) (2 * (K + 1) + 1) (ρ (.tmp 45)) u := hd (24, 45) (by simp)
      obtain ⟨s48, no48, nn48, nc48, eo48, en48, ec48, e48, k48⟩ : VC ((qa) * (qb)) (K + (K)) (ρ (.tmp 48)) u := hd (27, 48) (by simp)
      refine Goes.call 10 #[.agg #[.bool s45, .slice no45 nn45 nc45, .slice eo45 en45 ec45], .agg #[.bool s48, .slice no48 nn48 nc48, .slice eo48 en48 ec48]] (by go_simp) ?_
      refine Calls.mono (is3_any u s45 no45 nn45 nc45 eo45 en45 ec45 s48 no48 nn48 nc48 eo48 en48 ec48 _ _ _ _ k45.num k45.den k48.num k48.den (by have := k45.ln; omega) (by have := k45.ld; omega) (by have := k48.ln; omega) (by have := k48.ld; omega)) ?_
      rintro e u' ⟨r, rfl, HR, lb⟩
      exact ⟨_, rfl, hC.trans (lb.mono hC.size), lb, by rw [HR.out.2 (cq_same k45 k48 (by grind))]; rfl⟩
    · have e41 : ρ (.tmp 41) = .bool true := hd (20, 41) (by simp)
      have e49 : ρ (.tmp 49) = .bool true := hd (28, 49) (by simp)
      refine Goes.pure (.bool true) ?_ ⟨hC, Below.refl _ _, rfl⟩
      unfold Goes
      go_simp
    · have e50 : ρ (.tmp 50) = .bool true := hd (29, 50) (by simp)
      refine Goes.pure (.bool true) ?_ ⟨hC, Below.refl _ _, rfl⟩
      unfold Goes
      go_simp
    · have e5 : ρ (.tmp 5) = .pointer (some ⟨g5, 0, none⟩) := ho 5 (by simp)
      obtain ⟨c0, c1, c2⟩ := (b5.later hC).cells
      refine Goes.pure (.agg #[.bool s1, .slice no1 nn1 nc1, .slice eo1 en1 ec1]) ?_ ⟨hC, Below.refl _ _, rfl⟩
      unfold Goes
      go_simp
    · have e7 : ρ (.tmp 7) = .pointer (some ⟨g7, 0, none⟩) := ho 7 (by simp)
      obtain ⟨c0, c1, c2⟩ := (b7.later hC).cells
      refine Goes.pure (.agg #[.bool s2, .slice no2 nn2 nc2, .slice eo2 en2 ec2]) ?_ ⟨hC, Below.refl _ _, rfl⟩
      unfold Goes
      go_simp
    · have e52 : ρ (.tmp 52) = .agg #[.bool s1, .slice no1 nn1 nc1, .slice eo1 en1 ec1] := hd (31, 52) (by simp)
      have e53 : ρ (.tmp 53) = .agg #[.bool s2, .slice no2 nn2 nc2, .slice eo2 en2 ec2] := hd (32, 53) (by simp)
      refine Goes.call 10 #[.agg #[.bool s1, .slice no1 nn1 nc1, .slice eo1 en1 ec1], .agg #[.bool s2, .slice no2 nn2 nc2, .slice eo2 en2 ec2]] (by go_simp) ?_
      refine Calls.mono (is3_any u s1 no1 nn1 nc1 eo1 en1 ec1 s2 no2 nn2 nc2 eo2 en2 ec2 _ _ _ _ (cq.later hC).num (cq.later hC).den (cp.later hC).num (cp.later hC).den (by have := (cq.later hC).ln; omega) (by have := (cq.later hC).ld; omega) (by have := (cp.later hC).ln; omega) (by have := (cp.later hC).ld; omega)) ?_
      rintro e u' ⟨r, rfl, HR, lb⟩
      exact ⟨_, rfl, hC.trans (lb.mono hC.size), lb, by rw [HR.out.2 (cq_same (cq.later hC) (cp.later hC) (rfl))]; rfl⟩
    · have e51 : ρ (.tmp 51) = .bool true := hd (30, 51) (by simp)
      have e54 : ρ (.tmp 54) = .bool true := hd (33, 54) (by simp)
      refine Goes.pure (.bool true) ?_ ⟨hC, Below.refl _ _, rfl⟩
      unfold Goes
      go_simp
    · have e55 : ρ (.tmp 55) = .bool true := hd (34, 55) (by simp)
      refine Goes.pure (.bool true) ?_ ⟨hC, Below.refl _ _, rfl⟩
      unfold Goes
      go_simp
    · have e6 : ρ (.tmp 6) = .bool ok := ho 6 (by simp)
      refine Goes.pure (.bool ok) ?_ ⟨hC, Below.refl _ _, rfl⟩
      unfold Goes
      go_simp
    · have e8 : ρ (.tmp 8) = .bool ok := ho 8 (by simp)
      refine Goes.pure (.bool ok) ?_ ⟨hC, Below.refl _ _, rfl⟩
      unfold Goes
      go_simp
    · have e57 : ρ (.tmp 57) = .bool ok := hd (36, 57) (by simp)
      have e58 : ρ (.tmp 58) = .bool ok := hd (37, 58) (by simp)
      have hb0 : (ok == ok) = true := by simp
      refine Goes.pure (.bool true) ?_ ⟨hC, Below.refl _ _, rfl⟩
      unfold Goes
      go_simp
    · have e56 : ρ (.tmp 56) = .bool true := hd (35, 56) (by simp)
      have e59 : ρ (.tmp 59) = .bool true := hd (38, 59) (by simp)
      refine Goes.pure (.bool true) ?_ ⟨hC, Below.refl _ _, rfl⟩
      unfold Goes
      go_simp
    · have e60 : ρ (.tmp 60) = .bool true := hd (39, 60) (by simp)
      refine Goes.pure (.bool true) ?_ ⟨hC, Below.refl _ _, rfl⟩
      unfold Goes
      go_simp
    · have e2 : ρ (.tmp 2) = .pointer (some ⟨g, 0, none⟩) := ho 2 (by simp)
      obtain ⟨c0, c1, c2⟩ := (bx.later hC).cells
      refine Goes.pure (.agg #[.bool s, .slice no nn nc, .slice eo en ec]) ?_ ⟨hC, Below.refl _ _, rfl⟩
      unfold Goes
      go_simp
    · have e3 : ρ (.tmp 3) = .pointer (some ⟨g + 1, 0, none⟩) := ho 3 (by simp)
      obtain ⟨c0, c1, c2⟩ := (by_.later hC).cells
      refine Goes.pure (.agg #[.bool t, .slice mo mn mc, .slice fo fn fc]) ?_ ⟨hC, Below.refl _ _, rfl⟩
      unfold Goes
      go_simp
    · have e62 : ρ (.tmp 62) = .agg #[.bool s, .slice no nn nc, .slice eo en ec] := hd (41, 62) (by simp)
      have e63 : ρ (.tmp 63) = .agg #[.bool t, .slice mo mn mc, .slice fo fn fc] := hd (42, 63) (by simp)
      refine Goes.call 31 #[.agg #[.bool s, .slice no nn nc, .slice eo en ec], .agg #[.bool t, .slice mo mn mc, .slice fo fn fc]] (by go_simp) ?_
      refine Calls.mono (ratCmp_k (ha.later hC) (hb.later hC) (by omega) (by omega) (by omega)) ?_
      rintro e u' ⟨rfl, lb⟩
      exact ⟨_, rfl, hC.trans (lb.mono hC.size), lb, rfl⟩
    · have e2 : ρ (.tmp 2) = .pointer (some ⟨g, 0, none⟩) := ho 2 (by simp)
      obtain ⟨c0, c1, c2⟩ := (bx.later hC).cells
      refine Goes.pure (.agg #[.bool s, .slice no nn nc, .slice eo en ec]) ?_ ⟨hC, Below.refl _ _, rfl⟩
      unfold Goes
      go_simp
    · have e3 : ρ (.tmp 3) = .pointer (some ⟨g + 1, 0, none⟩) := ho 3 (by simp)
      obtain ⟨c0, c1, c2⟩ := (by_.later hC).cells
      refine Goes.pure (.agg #[.bool t, .slice mo mn mc, .slice fo fn fc]) ?_ ⟨hC, Below.refl _ _, rfl⟩
      unfold Goes
      go_simp
    · have e65 : ρ (.tmp 65) = .agg #[.bool s, .slice no nn nc, .slice eo en ec] := hd (44, 65) (by simp)
      have e66 : ρ (.tmp 66) = .agg #[.bool t, .slice mo mn mc, .slice fo fn fc] := hd (45, 66) (by simp)
      refine Goes.call 32 #[.agg #[.bool s, .slice no nn nc, .slice eo en ec], .agg #[.bool t, .slice mo mn mc, .slice fo fn fc]] (by go_simp) ?_
      refine Calls.mono (cmp3_any u s no nn nc eo en ec t mo mn mc fo fn fc (K) (K) (qa) (qb) (ha.later hC) (hb.later hC) (by omega) (by omega) (by omega)) ?_
      rintro e u' ⟨rfl, lb⟩
      exact ⟨_, rfl, hC.trans (lb.mono hC.size), lb, rfl⟩
    · have e64 : ρ (.tmp 64) = .int .i64 (qsgn (qa - (qb))) := hd (43, 64) (by simp)
      have e67 : ρ (.tmp 67) = .int .i64 (qsgn (qa - (qb))) := hd (46, 67) (by simp)
      have hb0 : (qsgn (qa - (qb)) == qsgn (qa - (qb))) = true := by simp
      refine Goes.pure (.bool true) ?_ ⟨hC, Below.refl _ _, rfl⟩
      unfold Goes
      go_simp
    · have e61 : ρ (.tmp 61) = .bool true := hd (40, 61) (by simp)
      have e68 : ρ (.tmp 68) = .bool true := hd (47, 68) (by simp)
      refine Goes.pure (.bool true) ?_ ⟨hC, Below.refl _ _, rfl⟩
      unfold Goes
      go_simp
    · have e69 : ρ (.tmp 69) = .bool true := hd (48, 69) (by simp)
      refine Goes.pure (.bool true) ?_ ⟨hC, Below.refl _ _, rfl⟩
      unfold Goes
      go_simp
    · have e2 : ρ (.tmp 2) = .pointer (some ⟨g, 0, none⟩) := ho 2 (by simp)
      obtain ⟨c0, c1, c2⟩ := (bx.later hC).cells
      refine Goes.pure (.agg #[.bool s, .slice no nn nc, .slice eo en ec]) ?_ ⟨hC, Below.refl _ _, rfl⟩
      unfold Goes
      go_simp
    · have e3 : ρ (.tmp 3) = .pointer (some ⟨g + 1, 0, none⟩) := ho 3 (by simp)
      obtain ⟨c0, c1, c2⟩ := (by_.later hC).cells
      refine Goes.pure (.agg #[.bool t, .slice mo mn mc, .slice fo fn fc]) ?_ ⟨hC, Below.refl _ _, rfl⟩
      unfold Goes
      go_simp
    · have e71 : ρ (.tmp 71) = .agg #[.bool s, .slice no nn nc, .slice eo en ec] := hd (50, 71) (by simp)
      have e72 : ρ (.tmp 72) = .agg #[.bool t, .slice mo mn mc, .slice fo fn fc] := hd (51, 72) (by simp)
      refine Goes.call 33 #[.agg #[.bool s, .slice no nn nc, .slice eo en ec], .agg #[.bool t, .slice mo mn mc, .slice fo fn fc]] (by go_simp) ?_
      refine Calls.mono (ratSame_k (ha.later hC) (hb.later hC) (by omega) (by omega) (by omega)) ?_
      rintro e u' ⟨r, rfl, HR, lb⟩
      exact ⟨_, rfl, hC.trans (lb.mono hC.size), lb, ⟨r, rfl, HR⟩⟩
    · have e2 : ρ (.tmp 2) = .pointer (some ⟨g, 0, none⟩) := ho 2 (by simp)
      obtain ⟨c0, c1, c2⟩ := (bx.later hC).cells
      refine Goes.pure (.agg #[.bool s, .slice no nn nc, .slice eo en ec]) ?_ ⟨hC, Below.refl _ _, rfl⟩
      unfold Goes
      go_simp
    · have e3 : ρ (.tmp 3) = .pointer (some ⟨g + 1, 0, none⟩) := ho 3 (by simp)
      obtain ⟨c0, c1, c2⟩ := (by_.later hC).cells
      refine Goes.pure (.agg #[.bool t, .slice mo mn mc, .slice fo fn fc]) ?_ ⟨hC, Below.refl _ _, rfl⟩
      unfold Goes
      go_simp
    · have e74 : ρ (.tmp 74) = .agg #[.bool s, .slice no nn nc, .slice eo en ec] := hd (53, 74) (by simp)
      have e75 : ρ (.tmp 75) = .agg #[.bool t, .slice mo mn mc, .slice fo fn fc] := hd (54, 75) (by simp)
      refine Goes.call 32 #[.agg #[.bool s, .slice no nn nc, .slice eo en ec], .agg #[.bool t, .slice mo mn mc, .slice fo fn fc]] (by go_simp) ?_
      refine Calls.mono (cmp3_any u s no nn nc eo en ec t mo mn mc fo fn fc (K) (K) (qa) (qb) (ha.later hC) (hb.later hC) (by omega) (by omega) (by omega)) ?_
      rintro e u' ⟨rfl, lb⟩
      exact ⟨_, rfl, hC.trans (lb.mono hC.size), lb, rfl⟩
    · have e76 : ρ (.tmp 76) = .int .i64 (qsgn (qa - (qb))) := hd (55, 76) (by simp)
      refine Goes.pure (.bool (qsgn (qa - (qb)) == 0)) ?_ ⟨hC, Below.refl _ _, rfl⟩
      unfold Goes
      go_simp
    · obtain ⟨r73, e73, k73⟩ : VB (qa = qb) (ρ (.tmp 73)) u := hd (52, 73) (by simp)
      have e77 : ρ (.tmp 77) = .bool (qsgn (qa - (qb)) == 0) := hd (56, 77) (by simp)
      obtain rfl := same_sgn k73.out
      refine Goes.pure (.bool true) ?_ ⟨hC, Below.refl _ _, rfl⟩
      unfold Goes
      go_simp
    · have e70 : ρ (.tmp 70) = .bool true := hd (49, 70) (by simp)
      have e78 : ρ (.tmp 78) = .bool true := hd (57, 78) (by simp)
      refine Goes.pure (.bool true) ?_ ⟨hC, Below.refl _ _, rfl⟩
      unfold Goes
      go_simp
  · intro vs u hC hv
    have e79 : vs 58 = .bool true := hv 58 (by omega)
    clear hv
    simp only [List.drop_succ_cons, List.drop_zero]
    refine puts_fin ({ tmps := #[.agg #[.bool s, .slice no nn nc, .slice eo en ec], .agg #[.bool t, .slice mo mn mc, .slice fo fn fc], .pointer (some ⟨g, 0, none⟩), .pointer (some ⟨g + 1, 0, none⟩), .bool false, .pointer (some ⟨g5, 0, none⟩), .bool ok, .pointer (some ⟨g7, 0, none⟩), .bool ok, .tuple #[.agg #[.bool s1, .slice no1 nn1 nc1, .slice eo1 en1 ec1], .bool ok], .agg #[.bool s, .slice no nn nc, .slice eo en ec], .agg #[.bool t, .slice mo mn mc, .slice fo fn fc], .tuple #[.agg #[.bool s1, .slice no1 nn1 nc1, .slice eo1 en1 ec1], .bool ok], .agg #[.bool s1, .slice no1 nn1 nc1, .slice eo1 en1 ec1], .bool ok, .tuple #[.agg #[.bool s2, .slice no2 nn2 nc2, .slice eo2 en2 ec2], .bool ok], .agg #[.bool s, .slice no nn nc, .slice eo en ec], .agg #[.bool t, .slice mo mn mc, .slice fo fn fc], .tuple #[.agg #[.bool s2, .slice no2 nn2 nc2, .slice eo2 en2 ec2], .bool ok], .agg #[.bool s2, .slice no2 nn2 nc2, .slice eo2 en2 ec2], .bool ok, vs 0, vs 1, vs 2, vs 3, vs 4, vs 5, vs 6, vs 7, vs 8, vs 9, vs 10, vs 11, vs 12, vs 13, vs 14, vs 15, vs 16, vs 17, vs 18, vs 19, vs 20, vs 21, vs 22, vs 23, vs 24, vs 25, vs 26, vs 27, vs 28, vs 29, vs 30, vs 31, vs 32, vs 33, vs 34, vs 35, vs 36, vs 37, vs 38, vs 39, vs 40, vs 41, vs 42, vs 43, vs 44, vs 45, vs 46, vs 47, vs 48, vs 49, vs 50, vs 51, vs 52, vs 53, vs 54, vs 55, vs 56, vs 57, vs 58], defers := [] }) (by kernel_rfl) ?_
    rw [e79]
    go_wp2
    go_ret
    exact ⟨rfl, bb4.trans (hC.mono bb4.size)⟩
end Go.Proofs.Ytagjjhaokhobhaa
