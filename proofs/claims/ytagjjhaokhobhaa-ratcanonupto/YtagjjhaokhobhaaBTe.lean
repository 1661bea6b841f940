/- penumbralaw03.RatCanon: true. -/
import Derived.Test.YtagjjhaokhobhaaAf
namespace Go.Proofs.Ytagjjhaokhobhaa
open Go.RowKit M Kahn

set_option maxRecDepth 100000 in
set_option maxHeartbeats 16000000 in
theorem canon_any (w : World) (s : Bool) (no : Option Addr) (nn nc : Nat) (eo : Option Addr) (en ec : Nat) (t : Bool) (mo : Option Addr) (mn mc : Nat) (fo : Option Addr) (fn fc : Nat) (K : Nat) (qa qb : Rat) (ha0 : Qn w s no nn nc eo en ec qa K) (hb0 : Qn w t mo mn mc fo fn fc qb K) (hK1 : 1 ≤ K) (hK : K ≤ 1048576) :
    Calls Try.prog 7 #[.agg #[.bool s, .slice no nn nc, .slice eo en ec], .agg #[.bool t, .slice mo mn mc, .slice fo fn fc]] w fun e w' => e = .returned (.bool true) ∧ Below w.heap.size w w' := by
  obtain ⟨w0, hw0, bx, by_, B0⟩ := box2 w (.bool s) (.slice no nn nc) (.slice eo en ec) (.bool t) (.slice mo mn mc) (.slice fo fn fc)
  have ha := ha0.later B0
  have hb := hb0.later B0
  clear ha0 hb0
  obtain ⟨xs, ys, sx, sy, hq⟩ := ha.there
  have l1 := ha.ln
  have l2 := ha.ld
  have HQ : Hid _ := hq
  clear ha hq
  obtain ⟨g, hg⟩ : ∃ g, g = w.heap.size := ⟨_, rfl⟩
  have HG : Hid (w.heap.size = g) := hg.symm
  rw [← hg] at bx by_
  go_enter Try.func7, Try.ntmps7
  go_wp2
  rw [← hw0, ← hg]
  clear hw0 hg
  have HLst : Lst [VV (.pointer (some ⟨g, 0, none⟩)), VV (.bool s), VE w0.heap.size, VV (.pointer (some ⟨g, 1, none⟩)), VV (.slice no nn nc), VO (xs) w0.heap.size, VE w0.heap.size, VV (.pointer (some ⟨g, 2, none⟩)), VV (.slice eo en ec), VO (ys) w0.heap.size, VX s xs ys w0.heap.size, VP w0.heap.size] := ⟨VV.lasts _, VV.lasts _, VE.lasts _, VV.lasts _, VV.lasts _, VO.lasts _ _, VE.lasts _, VV.lasts _, VV.lasts _, VO.lasts _ _, VX.lasts _ _ _ _, VP.lasts _, trivial⟩
  refine wp_region_kahn 12 135 [([], [2]), ([(0, 14)], []), ([], []), ([], [2]), ([(3, 17)], []), ([(2, 16), (4, 18)], []), ([], []), ([], [2]), ([(7, 21)], []), ([(6, 20), (8, 22)], []), ([(1, 15), (5, 19), (9, 23)], []), ([], [])]
    (fun u => Below w0.heap.size w0 u) (fun u u' => Below u.heap.size u u')
    (Sp [VV (.pointer (some ⟨g, 0, none⟩)), VV (.bool s), VE w0.heap.size, VV (.pointer (some ⟨g, 1, none⟩)), VV (.slice no nn nc), VO (xs) w0.heap.size, VE w0.heap.size, VV (.pointer (some ⟨g, 2, none⟩)), VV (.slice eo en ec), VO (ys) w0.heap.size, VX s xs ys w0.heap.size, VP w0.heap.size])
    (by kernel_rfl) rfl (by kernel_rfl) (Below.refl _ _).drew (fun k v u u' _ hg hs => Sp.lasts HLst k v u u' hg hs) ?_ ?_
  · refine ⟨.inl ⟨by simp, fun ρ u hC hc hf hd ho => ?_⟩, .inl ⟨by simp, fun ρ u hC hc hf hd ho => ?_⟩, .inl ⟨by simp, fun ρ u hC hc hf hd ho => ?_⟩, .inl ⟨by simp, fun ρ u hC hc hf hd ho => ?_⟩, .inl ⟨by simp, fun ρ u hC hc hf hd ho => ?_⟩, .inl ⟨by simp, fun ρ u hC hc hf hd ho => ?_⟩, .inl ⟨by simp, fun ρ u hC hc hf hd ho => ?_⟩, .inl ⟨by simp, fun ρ u hC hc hf hd ho => ?_⟩, .inl ⟨by simp, fun ρ u hC hc hf hd ho => ?_⟩, .inl ⟨by simp, fun ρ u hC hc hf hd ho => ?_⟩, .inl ⟨by simp, fun ρ u hC hc hf hd ho => ?_⟩, .inl ⟨by simp, fun ρ u hC hc hf hd ho => ?_⟩, trivial⟩
    · have e2 : ρ (.tmp 2) = .pointer (some ⟨g, 0, none⟩) := ho 2 (by simp)
      refine Goes.pure (.pointer (some ⟨g, 0, none⟩)) ?_ ⟨hC, Below.refl _ _, rfl⟩
      unfold Goes
      go_simp
    · have e14 : ρ (.tmp 14) = .pointer (some ⟨g, 0, none⟩) := hd (0, 14) (by simp)
      obtain ⟨c0, c1_, c2_⟩ := (bx.later hC).cells
      refine Goes.pure (.bool s) ?_ ⟨hC, Below.refl _ _, rfl⟩
      unfold Goes
      go_simp
    · skip
      have lb : Below u.heap.size u (u.alloc (.cells #[] 40)) := (Below.refl _ _).alloc (Nat.le_refl _) _
      refine Goes.run (.slice (some ⟨u.heap.size, 0, none⟩) 0 0) (u.alloc (.cells #[] 40)) (by go_simp) ⟨hC.trans (lb.mono hC.size), lb, ⟨u.heap.size, rfl, hC.size, heap_alloc_new _ _⟩⟩
    · have e2 : ρ (.tmp 2) = .pointer (some ⟨g, 0, none⟩) := ho 2 (by simp)
      refine Goes.pure (.pointer (some ⟨g, 1, none⟩)) ?_ ⟨hC, Below.refl _ _, rfl⟩
      unfold Goes
      go_simp
    · have e17 : ρ (.tmp 17) = .pointer (some ⟨g, 1, none⟩) := hd (3, 17) (by simp)
      obtain ⟨c0, c1_, c2_⟩ := (bx.later hC).cells
      refine Goes.pure (.slice no nn nc) ?_ ⟨hC, Below.refl _ _, rfl⟩
      unfold Goes
      go_simp
    · obtain ⟨g16, e16, h16, b16⟩ : VE w0.heap.size (ρ (.tmp 16)) u := hd (2, 16) (by simp)
      have e18 : ρ (.tmp 18) = .slice no nn nc := hd (4, 18) (by simp)
      obtain ⟨ao, cap, u', hr, ho2, lb⟩ := app_copy u _ g16 b16 h16 (sx.later hC) (by omega) 22
      exact Goes.app (.tmp 16) (.tmp 18) rfl e16 e18 hr ⟨hC.trans (lb.mono hC.size), lb, ⟨ao, _, cap, rfl, ho2⟩⟩
    · skip
      have lb : Below u.heap.size u (u.alloc (.cells #[] 40)) := (Below.refl _ _).alloc (Nat.le_refl _) _
      refine Goes.run (.slice (some ⟨u.heap.size, 0, none⟩) 0 0) (u.alloc (.cells #[] 40)) (by go_simp) ⟨hC.trans (lb.mono hC.size), lb, ⟨u.heap.size, rfl, hC.size, heap_alloc_new _ _⟩⟩
    · have e2 : ρ (.tmp 2) = .pointer (some ⟨g, 0, none⟩) := ho 2 (by simp)
      refine Goes.pure (.pointer (some ⟨g, 2, none⟩)) ?_ ⟨hC, Below.refl _ _, rfl⟩
      unfold Goes
      go_simp
    · have e21 : ρ (.tmp 21) = .pointer (some ⟨g, 2, none⟩) := hd (7, 21) (by simp)
      obtain ⟨c0, c1_, c2_⟩ := (bx.later hC).cells
      refine Goes.pure (.slice eo en ec) ?_ ⟨hC, Below.refl _ _, rfl⟩
      unfold Goes
      go_simp
    · obtain ⟨g20, e20, h20, b20⟩ : VE w0.heap.size (ρ (.tmp 20)) u := hd (6, 20) (by simp)
      have e22 : ρ (.tmp 22) = .slice eo en ec := hd (8, 22) (by simp)
      obtain ⟨ao, cap, u', hr, ho2, lb⟩ := app_copy u _ g20 b20 h20 (sy.later hC) (by omega) 22
      exact Goes.app (.tmp 20) (.tmp 22) rfl e20 e22 hr ⟨hC.trans (lb.mono hC.size), lb, ⟨ao, _, cap, rfl, ho2⟩⟩
    · have e15 : ρ (.tmp 15) = .bool s := hd (1, 15) (by simp)
      obtain ⟨o19, n19, c19, e19, k19⟩ : VO (xs) w0.heap.size (ρ (.tmp 19)) u := hd (5, 19) (by simp)
      obtain ⟨o23, n23, c23, e23, k23⟩ : VO (ys) w0.heap.size (ρ (.tmp 23)) u := hd (9, 23) (by simp)
      refine Goes.pure (.agg #[.bool s, .slice o19 n19 c19, .slice o23 n23 c23]) ?_ ⟨hC, Below.refl _ _, ⟨o19, n19, c19, o23, n23, c23, rfl, k19, k23⟩⟩
      unfold Goes
      go_simp
    · skip
      have lb : Below u.heap.size u (u.alloc (.cells #[.bool false, .slice none 0 0, .slice none 0 0] 24)) := (Below.refl _ _).alloc (Nat.le_refl _) _
      refine Goes.run (.pointer (some ⟨u.heap.size, 0, none⟩)) (u.alloc (.cells #[.bool false, .slice none 0 0, .slice none 0 0] 24)) (by go_simp) ⟨hC.trans (lb.mono hC.size), lb, ⟨_, rfl, hC.size, ⟨heap_alloc_new _ _⟩⟩⟩
  · intro vs u hC hv
    obtain ⟨o1, n1, dx1, o2, n2, dx2, e24, x1, x2⟩ : VX s xs ys w0.heap.size (vs 10) u := hv 10 (by omega)
    obtain ⟨gX, e5, hgX, bX⟩ : VP w0.heap.size (vs 11) u := hv 11 (by omega)
    clear hv
    simp only [puts, List.take, List.drop, Act.put, List.setIfInBounds_toArray, List.set_cons_succ, List.set_cons_zero, Nat.reduceAdd, e24, e5]
    clear e24 e5
    have lx1 := x1.len
    have lx2 := x2.len
    have ly1 := sx.len
    have ly2 := sy.len
    obtain rfl : n1 = nn := by omega
    obtain rfl : n2 = en := by omega
    clear lx1 lx2 ly1 ly2 sx sy
    have nbx : g ≠ gX := Nat.ne_of_lt (Nat.lt_of_lt_of_le bx.lt hgX)
    have nby : g + 1 ≠ gX := Nat.ne_of_lt (Nat.lt_of_lt_of_le by_.lt hgX)
    have hgX2 : w.heap.size ≤ gX := Nat.le_trans B0.size hgX
    have hgX3 := hgX2
    replace by_ := by_.later hC
    replace hb := hb.later hC
    have B1 := B0.trans (hC.mono B0.size)
    replace x1 := x1.mono B0.size
    replace x2 := x2.mono B0.size
    clear B0 hC bx nbx hgX
    obtain ⟨r0, r1, r2⟩ := bX.cells
    have f0 := bX.free 0
    have f1 := bX.free 1
    have f2 := bX.free 2
    have fr := Rb.putFr gX u (.bool s) (.slice o1 n1 dx1) (.slice o2 n2 dx2)
    replace x1 := x1.store bX fr
    replace x2 := x2.store bX fr
    replace hb := hb.store bX fr
    replace by_ := by_.keep (fr.block _ nby)
    have B2 := B1.trans (fr.below hgX2)
    replace bX := bX.put (.bool s) (.slice o1 n1 dx1) (.slice o2 n2 dx2)
    clear fr B1 hgX2 nby
    generalize hW : ((u.setCell ⟨gX, 0, none⟩ (.bool s)).setCell ⟨gX, 1, none⟩ (.slice o1 n1 dx1)).setCell ⟨gX, 2, none⟩ (.slice o2 n2 dx2) = w1 at *
    have ha : Qn w1 s o1 n1 dx1 o2 n2 dx2 qa K := ⟨⟨xs, ys, x1.rd, x2.rd, HQ.out⟩, l1, l2⟩
    obtain ⟨c50, c51, c52⟩ := bX.cells
    obtain ⟨c30, c31, c32⟩ := by_.cells
    go_wp2_with fail
    clear hW r0 r1 r2 f0 f1 f2
    generalize hok : decide (qb ≠ 0) = ok
    have X1 : Hid (∀ k, o1 = some ⟨k, 0, none⟩ → g ≤ k ∧ k < w1.heap.size) := fun k hk => by subst hk; rw [← HG.out]; exact x1.block
    have X2 : Hid (∀ k, o2 = some ⟨k, 0, none⟩ → g ≤ k ∧ k < w1.heap.size) := fun k hk => by subst hk; rw [← HG.out]; exact x2.block
    have hXg : g ≤ gX ∧ gX < w1.heap.size := ⟨by rw [← HG.out]; exact Nat.le_trans (Nat.le_refl _) hgX3, bX.lt⟩
    refine (ratDiv_n ha hb hK1 hK1 (by omega)).mono ?_
    rintro e w2 ⟨s1, no1, nn1, nc1, eo1, en1, ec1, rfl, cq, t1, t2, lb⟩
    rw [hok]
    have b6 : Rb (w2.alloc (.cells #[.bool s1, .slice no1 nn1 nc1, .slice eo1 en1 ec1] 24)) w2.heap.size (.bool s1) (.slice no1 nn1 nc1) (.slice eo1 en1 ec1) := ⟨heap_alloc_new _ _⟩
    have l2' : Below w2.heap.size w2 (w2.alloc (.cells #[.bool s1, .slice no1 nn1 nc1, .slice eo1 en1 ec1] 24)) := (Below.refl _ _).alloc (Nat.le_refl _) _
    have lb3 := lb.trans (l2'.mono lb.size)
    replace ha := ha.later lb3
    replace hb := hb.later lb3
    replace bX := bX.later lb3
    replace by_ := by_.later lb3
    replace x1 := x1.later lb3
    replace x2 := x2.later lb3
    replace cq := cq.later l2'
    have B3 := B2.trans (lb3.mono B2.size)
    have HB6 : Hid (w1.heap.size ≤ w2.heap.size) := lb.size
    have HBL : Hid (w1.heap.size ≤ (w2.alloc (.cells #[.bool s1, .slice no1 nn1 nc1, .slice eo1 en1 ec1] 24)).heap.size) := lb3.size
    clear B2 lb lb3 l2' c50 c51 c52 c30 c31 c32 hok
    go_wp2
    generalize w2.alloc (.cells #[.bool s1, .slice no1 nn1 nc1, .slice eo1 en1 ec1] 24) = w3 at *
    generalize w2.heap.size = g6 at *
    generalize w1.heap.size = bB at *
    have HLst : Lst [VV (.agg #[.bool s, .slice o1 n1 dx1, .slice o2 n2 dx2]), VCn (qa) (K) (bB), VV (.agg #[.bool s, .slice o1 n1 dx1, .slice o2 n2 dx2]), VL [qa] (K), VCn (qa) (1 * (K + 1) + 1) (bB), VV (.agg #[.bool s, .slice o1 n1 dx1, .slice o2 n2 dx2]), VV (.agg #[.bool t, .slice mo mn mc, .slice fo fn fc]), VL [qa, qb] (K), VCn (qa + qb) (2 * (K + 1) + 1) (bB), VV (.agg #[.bool s, .slice o1 n1 dx1, .slice o2 n2 dx2]), VL [qa] (K), VCn (qa) (1 * (K + 1) + 1) (bB), VV (.agg #[.bool s, .slice o1 n1 dx1, .slice o2 n2 dx2]), VV (.agg #[.bool t, .slice mo mn mc, .slice fo fn fc]), VL [qa, qb] (K), VCn (qa * qb) (2 * (K + 1) + 1) (bB), VV (.agg #[.bool s, .slice o1 n1 dx1, .slice o2 n2 dx2]), VV (.agg #[.bool t, .slice mo mn mc, .slice fo fn fc]), VCn (qa - (qb)) (K + (K) + 1) (bB), VV (.agg #[.bool s, .slice o1 n1 dx1, .slice o2 n2 dx2]), VCn (-(qa)) (K) (bB), VV (.agg #[.bool s, .slice o1 n1 dx1, .slice o2 n2 dx2]), VCn (qabs (qa)) (K) (bB), VV (.agg #[.bool s, .slice o1 n1 dx1, .slice o2 n2 dx2]), VCn (qfl (qa)) (K + 1) (bB), VV (.agg #[.bool s1, .slice no1 nn1 nc1, .slice eo1 en1 ec1]), VLC [qa, qa, qa + qb, qa, qa * qb, qa - (qb), -(qa), qabs (qa), qfl (qa), qa / qb] (3 * K + 3) (bB)] := ⟨VV.lasts _, VCn.lasts _ _ _, VV.lasts _, VL.lasts _ _, VCn.lasts _ _ _, VV.lasts _, VV.lasts _, VL.lasts _ _, VCn.lasts _ _ _, VV.lasts _, VL.lasts _ _, VCn.lasts _ _ _, VV.lasts _, VV.lasts _, VL.lasts _ _, VCn.lasts _ _ _, VV.lasts _, VV.lasts _, VCn.lasts _ _ _, VV.lasts _, VCn.lasts _ _ _, VV.lasts _, VCn.lasts _ _ _, VV.lasts _, VCn.lasts _ _ _, VV.lasts _, VLC.lasts _ _ _, trivial⟩
    refine wp_region_kahn 27 135 [([], [5]), ([(0, 31)], []), ([], [5]), ([(2, 33)], []), ([(3, 34)], []), ([], [5]), ([], [3]), ([(5, 36), (6, 37)], []), ([(7, 38)], []), ([], [5]), ([(9, 40)], []), ([(10, 41)], []), ([], [5]), ([], [3]), ([(12, 43), (13, 44)], []), ([(14, 45)], []), ([], [5]), ([], [3]), ([(16, 47), (17, 48)], []), ([], [5]), ([(19, 50)], []), ([], [5]), ([(21, 52)], []), ([], [5]), ([(23, 54)], []), ([], [6]), ([(1, 32), (4, 35), (8, 39), (11, 42), (15, 46), (18, 49), (20, 51), (22, 53), (24, 55), (25, 56)], [])]
      (fun u => Below w3.heap.size w3 u) (fun u u' => Below u.heap.size u u')
      (Sp [VV (.agg #[.bool s, .slice o1 n1 dx1, .slice o2 n2 dx2]), VCn (qa) (K) (bB), VV (.agg #[.bool s, .slice o1 n1 dx1, .slice o2 n2 dx2]), VL [qa] (K), VCn (qa) (1 * (K + 1) + 1) (bB), VV (.agg #[.bool s, .slice o1 n1 dx1, .slice o2 n2 dx2]), VV (.agg #[.bool t, .slice mo mn mc, .slice fo fn fc]), VL [qa, qb] (K), VCn (qa + qb) (2 * (K + 1) + 1) (bB), VV (.agg #[.bool s, .slice o1 n1 dx1, .slice o2 n2 dx2]), VL [qa] (K), VCn (qa) (1 * (K + 1) + 1) (bB), VV (.agg #[.bool s, .slice o1 n1 dx1, .slice o2 n2 dx2]), VV (.agg #[.bool t, .slice mo mn mc, .slice fo fn fc]), VL [qa, qb] (K), VCn (qa * qb) (2 * (K + 1) + 1) (bB), VV (.agg #[.bool s, .slice o1 n1 dx1, .slice o2 n2 dx2]), VV (.agg #[.bool t, .slice mo mn mc, .slice fo fn fc]), VCn (qa - (qb)) (K + (K) + 1) (bB), VV (.agg #[.bool s, .slice o1 n1 dx1, .slice o2 n2 dx2]), VCn (-(qa)) (K) (bB), VV (.agg #[.bool s, .slice o1 n1 dx1, .slice o2 n2 dx2]), VCn (qabs (qa)) (K) (bB), VV (.agg #[.bool s, .slice o1 n1 dx1, .slice o2 n2 dx2]), VCn (qfl (qa)) (K + 1) (bB), VV (.agg #[.bool s1, .slice no1 nn1 nc1, .slice eo1 en1 ec1]), VLC [qa, qa, qa + qb, qa, qa * qb, qa - (qb), -(qa), qabs (qa), qfl (qa), qa / qb] (3 * K + 3) (bB)])
      (by kernel_rfl) rfl (by kernel_rfl) (Below.refl _ _).drew (fun k v u u' _ hg hs => Sp.lasts HLst k v u u' hg hs) ?_ ?_
    · clear HLst
      refine ⟨.inl ⟨by simp, fun ρ u hC hc hf hd ho => ?_⟩, .inl ⟨by simp, fun ρ u hC hc hf hd ho => ?_⟩, .inl ⟨by simp, fun ρ u hC hc hf hd ho => ?_⟩, .inl ⟨by simp, fun ρ u hC hc hf hd ho => ?_⟩, .inl ⟨by simp, fun ρ u hC hc hf hd ho => ?_⟩, .inl ⟨by simp, fun ρ u hC hc hf hd ho => ?_⟩, .inl ⟨by simp, fun ρ u hC hc hf hd ho => ?_⟩, .inl ⟨by simp, fun ρ u hC hc hf hd ho => ?_⟩, .inl ⟨by simp, fun ρ u hC hc hf hd ho => ?_⟩, .inl ⟨by simp, fun ρ u hC hc hf hd ho => ?_⟩, .inl ⟨by simp, fun ρ u hC hc hf hd ho => ?_⟩, .inl ⟨by simp, fun ρ u hC hc hf hd ho => ?_⟩, .inl ⟨by simp, fun ρ u hC hc hf hd ho => ?_⟩, .inl ⟨by simp, fun ρ u hC hc hf hd ho => ?_⟩, .inl ⟨by simp, fun ρ u hC hc hf hd ho => ?_⟩, .inl ⟨by simp, fun ρ u hC hc hf hd ho => ?_⟩, .inl ⟨by simp, fun ρ u hC hc hf hd ho => ?_⟩, .inl ⟨by simp, fun ρ u hC hc hf hd ho => ?_⟩, .inl ⟨by simp, fun ρ u hC hc hf hd ho => ?_⟩, .inl ⟨by simp, fun ρ u hC hc hf hd ho => ?_⟩, .inl ⟨by simp, fun ρ u hC hc hf hd ho => ?_⟩, .inl ⟨by simp, fun ρ u hC hc hf hd ho => ?_⟩, .inl ⟨by simp, fun ρ u hC hc hf hd ho => ?_⟩, .inl ⟨by simp, fun ρ u hC hc hf hd ho => ?_⟩, .inl ⟨by simp, fun ρ u hC hc hf hd ho => ?_⟩, .inl ⟨by simp, fun ρ u hC hc hf hd ho => ?_⟩, .inl ⟨by simp, fun ρ u hC hc hf hd ho => ?_⟩, trivial⟩
      · have e5 : ρ (.tmp 5) = .pointer (some ⟨gX, 0, none⟩) := ho 5 (by simp)
        obtain ⟨c0, c1, c2⟩ := (bX.later hC).cells
        refine Goes.pure (.agg #[.bool s, .slice o1 n1 dx1, .slice o2 n2 dx2]) ?_ ⟨hC, Below.refl _ _, rfl⟩
        unfold Goes
        go_simp
      · have e31 : ρ (.tmp 31) = .agg #[.bool s, .slice o1 n1 dx1, .slice o2 n2 dx2] := hd (0, 31) (by simp)
        refine Goes.call 11 #[.agg #[.bool s, .slice o1 n1 dx1, .slice o2 n2 dx2]] (by go_simp) ?_
        refine Calls.mono (ratRead_n (ha.later hC) (by omega) (by omega)) ?_
        have hBu : bB ≤ u.heap.size := Nat.le_trans HBL.out hC.size
        rintro e u' ⟨s1, no1, nn1, nc1, eo1, en1, ec1, rfl, cq, tn, te, lb⟩
        exact ⟨_, rfl, hC.trans (lb.mono hC.size), lb, ⟨s1, no1, nn1, nc1, eo1, en1, ec1, rfl, cq, tn.mono hBu, te.mono hBu⟩⟩
      · have e5 : ρ (.tmp 5) = .pointer (some ⟨gX, 0, none⟩) := ho 5 (by simp)
        obtain ⟨c0, c1, c2⟩ := (bX.later hC).cells
        refine Goes.pure (.agg #[.bool s, .slice o1 n1 dx1, .slice o2 n2 dx2]) ?_ ⟨hC, Below.refl _ _, rfl⟩
        unfold Goes
        go_simp
      · have e33 : ρ (.tmp 33) = .agg #[.bool s, .slice o1 n1 dx1, .slice o2 n2 dx2] := hd (2, 33) (by simp)
        have lb : Below u.heap.size u (u.alloc (.cells #[.bool s, .slice o1 n1 dx1, .slice o2 n2 dx2] 24)) := (Below.refl _ _).alloc (Nat.le_refl _) _
        refine Goes.run (.slice (some ⟨u.heap.size, 0, none⟩) 1 1) (u.alloc (.cells #[.bool s, .slice o1 n1 dx1, .slice o2 n2 dx2] 24)) (by go_simp) ⟨hC.trans (lb.mono hC.size), lb, ?_⟩
        exact VL.made [⟨s, o1, n1, dx1, o2, n2, dx2⟩] [qa] ⟨(ha.later hC).mono (by omega), trivial⟩ _ rfl 1 rfl
      · have k34 : VL [qa] (K) (ρ (.tmp 34)) u := hd (3, 34) (by simp)
        refine Goes.call 25 #[ρ (.tmp 34)] (by go_simp) ?_
        refine Calls.mono (ratSum_n k34 (by omega) (by simp only [List.length_cons, List.length_nil]; omega)) ?_
        have hBu : bB ≤ u.heap.size := Nat.le_trans HBL.out hC.size
        rintro e u' ⟨s1, no1, nn1, nc1, eo1, en1, ec1, rfl, cq, tn, te, lb⟩
        exact ⟨_, rfl, hC.trans (lb.mono hC.size), lb, ⟨s1, no1, nn1, nc1, eo1, en1, ec1, rfl, by rw [qsum1] at cq; exact cq.mono (by simp only [List.length_cons, List.length_nil]; omega), tn.mono hBu, te.mono hBu⟩⟩
      · have e5 : ρ (.tmp 5) = .pointer (some ⟨gX, 0, none⟩) := ho 5 (by simp)
        obtain ⟨c0, c1, c2⟩ := (bX.later hC).cells
        refine Goes.pure (.agg #[.bool s, .slice o1 n1 dx1, .slice o2 n2 dx2]) ?_ ⟨hC, Below.refl _ _, rfl⟩
        unfold Goes
        go_simp
      · have e3 : ρ (.tmp 3) = .pointer (some ⟨g + 1, 0, none⟩) := ho 3 (by simp)
        obtain ⟨c0, c1, c2⟩ := (by_.later hC).cells
        refine Goes.pure (.agg #[.bool t, .slice mo mn mc, .slice fo fn fc]) ?_ ⟨hC, Below.refl _ _, rfl⟩
        unfold Goes
        go_simp
      · have e36 : ρ (.tmp 36) = .agg #[.bool s, .slice o1 n1 dx1, .slice o2 n2 dx2] := hd (5, 36) (by simp)
        have e37 : ρ (.tmp 37) = .agg #[.bool t, .slice mo mn mc, .slice fo fn fc] := hd (6, 37) (by simp)
        have lb : Below u.heap.size u (u.alloc (.cells #[.bool s, .slice o1 n1 dx1, .slice o2 n2 dx2, .bool t, .slice mo mn mc, .slice fo fn fc] 24)) := (Below.refl _ _).alloc (Nat.le_refl _) _
        refine Goes.run (.slice (some ⟨u.heap.size, 0, none⟩) 2 2) (u.alloc (.cells #[.bool s, .slice o1 n1 dx1, .slice o2 n2 dx2, .bool t, .slice mo mn mc, .slice fo fn fc] 24)) (by go_simp) ⟨hC.trans (lb.mono hC.size), lb, ?_⟩
        exact VL.made [⟨s, o1, n1, dx1, o2, n2, dx2⟩, ⟨t, mo, mn, mc, fo, fn, fc⟩] [qa, qb] ⟨(ha.later hC).mono (by omega), (hb.later hC).mono (by omega), trivial⟩ _ rfl 2 rfl
      · have k38 : VL [qa, qb] (K) (ρ (.tmp 38)) u := hd (7, 38) (by simp)
        refine Goes.call 25 #[ρ (.tmp 38)] (by go_simp) ?_
        refine Calls.mono (ratSum_n k38 (by omega) (by simp only [List.length_cons, List.length_nil]; omega)) ?_
        have hBu : bB ≤ u.heap.size := Nat.le_trans HBL.out hC.size
        rintro e u' ⟨s1, no1, nn1, nc1, eo1, en1, ec1, rfl, cq, tn, te, lb⟩
        exact ⟨_, rfl, hC.trans (lb.mono hC.size), lb, ⟨s1, no1, nn1, nc1, eo1, en1, ec1, rfl, by rw [qsum2] at cq; exact cq.mono (by simp only [List.length_cons, List.length_nil]; omega), tn.mono hBu, te.mono hBu⟩⟩
      · have e5 : ρ (.tmp 5) = .pointer (some ⟨gX, 0, none⟩) := ho 5 (by simp)
        obtain ⟨c0, c1, c2⟩ := (bX.later hC).cells
        refine Goes.pure (.agg #[.bool s, .slice o1 n1 dx1, .slice o2 n2 dx2]) ?_ ⟨hC, Below.refl _ _, rfl⟩
        unfold Goes
        go_simp
      · have e40 : ρ (.tmp 40) = .agg #[.bool s, .slice o1 n1 dx1, .slice o2 n2 dx2] := hd (9, 40) (by simp)
        have lb : Below u.heap.size u (u.alloc (.cells #[.bool s, .slice o1 n1 dx1, .slice o2 n2 dx2] 24)) := (Below.refl _ _).alloc (Nat.le_refl _) _
        refine Goes.run (.slice (some ⟨u.heap.size, 0, none⟩) 1 1) (u.alloc (.cells #[.bool s, .slice o1 n1 dx1, .slice o2 n2 dx2] 24)) (by go_simp) ⟨hC.trans (lb.mono hC.size), lb, ?_⟩
        exact VL.made [⟨s, o1, n1, dx1, o2, n2, dx2⟩] [qa] ⟨(ha.later hC).mono (by omega), trivial⟩ _ rfl 1 rfl
      · have k41 : VL [qa] (K) (ρ (.tmp 41)) u := hd (10, 41) (by simp)
        refine Goes.call 29 #[ρ (.tmp 41)] (by go_simp) ?_
        refine Calls.mono (ratProduct_n k41 (by omega) (by simp only [List.length_cons, List.length_nil]; omega)) ?_
        have hBu : bB ≤ u.heap.size := Nat.le_trans HBL.out hC.size
        rintro e u' ⟨s1, no1, nn1, nc1, eo1, en1, ec1, rfl, cq, tn, te, lb⟩
        exact ⟨_, rfl, hC.trans (lb.mono hC.size), lb, ⟨s1, no1, nn1, nc1, eo1, en1, ec1, rfl, by rw [qprod1] at cq; exact cq.mono (by simp only [List.length_cons, List.length_nil]; omega), tn.mono hBu, te.mono hBu⟩⟩
      · have e5 : ρ (.tmp 5) = .pointer (some ⟨gX, 0, none⟩) := ho 5 (by simp)
        obtain ⟨c0, c1, c2⟩ := (bX.later hC).cells
        refine Goes.pure (.agg #[.bool s, .slice o1 n1 dx1, .slice o2 n2 dx2]) ?_ ⟨hC, Below.refl _ _, rfl⟩
        unfold Goes
        go_simp
      · have e3 : ρ (.tmp 3) = .pointer (some ⟨g + 1, 0, none⟩) := ho 3 (by simp)
        obtain ⟨c0, c1, c2⟩ := (by_.later hC).cells
        refine Goes.pure (.agg #[.bool t, .slice mo mn mc, .slice fo fn fc]) ?_ ⟨hC, Below.refl _ _, rfl⟩
        unfold Goes
        go_simp
      · have e43 : ρ (.tmp 43) = .agg #[.bool s, .slice o1 n1 dx1, .slice o2 n2 dx2] := hd (12, 43) (by simp)
        have e44 : ρ (.tmp 44) = .agg #[.bool t, .slice mo mn mc, .slice fo fn fc] := hd (13, 44) (by simp)
        have lb : Below u.heap.size u (u.alloc (.cells #[.bool s, .slice o1 n1 dx1, .slice o2 n2 dx2, .bool t, .slice mo mn mc, .slice fo fn fc] 24)) := (Below.refl _ _).alloc (Nat.le_refl _) _
        refine Goes.run (.slice (some ⟨u.heap.size, 0, none⟩) 2 2) (u.alloc (.cells #[.bool s, .slice o1 n1 dx1, .slice o2 n2 dx2, .bool t, .slice mo mn mc, .slice fo fn fc] 24)) (by go_simp) ⟨hC.trans (lb.mono hC.size), lb, ?_⟩
        exact VL.made [⟨s, o1, n1, dx1, o2, n2, dx2⟩, ⟨t, mo, mn, mc, fo, fn, fc⟩] [qa, qb] ⟨(ha.later hC).mono (by omega), (hb.later hC).mono (by omega), trivial⟩ _ rfl 2 rfl
      · have k45 : VL [qa, qb] (K) (ρ (.tmp 45)) u := hd (14, 45) (by simp)
        refine Goes.call 29 #[ρ (.tmp 45)] (by go_simp) ?_
        refine Calls.mono (ratProduct_n k45 (by omega) (by simp only [List.length_cons, List.length_nil]; omega)) ?_
        have hBu : bB ≤ u.heap.size := Nat.le_trans HBL.out hC.size
        rintro e u' ⟨s1, no1, nn1, nc1, eo1, en1, ec1, rfl, cq, tn, te, lb⟩
        exact ⟨_, rfl, hC.trans (lb.mono hC.size), lb, ⟨s1, no1, nn1, nc1, eo1, en1, ec1, rfl, by rw [qprod2] at cq; exact cq.mono (by simp only [List.length_cons, List.length_nil]; omega), tn.mono hBu, te.mono hBu⟩⟩
      · have e5 : ρ (.tmp 5) = .pointer (some ⟨gX, 0, none⟩) := ho 5 (by simp)
        obtain ⟨c0, c1, c2⟩ := (bX.later hC).cells
        refine Goes.pure (.agg #[.bool s, .slice o1 n1 dx1, .slice o2 n2 dx2]) ?_ ⟨hC, Below.refl _ _, rfl⟩
        unfold Goes
        go_simp
      · have e3 : ρ (.tmp 3) = .pointer (some ⟨g + 1, 0, none⟩) := ho 3 (by simp)
        obtain ⟨c0, c1, c2⟩ := (by_.later hC).cells
        refine Goes.pure (.agg #[.bool t, .slice mo mn mc, .slice fo fn fc]) ?_ ⟨hC, Below.refl _ _, rfl⟩
        unfold Goes
        go_simp
      · have e47 : ρ (.tmp 47) = .agg #[.bool s, .slice o1 n1 dx1, .slice o2 n2 dx2] := hd (16, 47) (by simp)
        have e48 : ρ (.tmp 48) = .agg #[.bool t, .slice mo mn mc, .slice fo fn fc] := hd (17, 48) (by simp)
        refine Goes.call 27 #[.agg #[.bool s, .slice o1 n1 dx1, .slice o2 n2 dx2], .agg #[.bool t, .slice mo mn mc, .slice fo fn fc]] (by go_simp) ?_
        refine Calls.mono (ratSub_n (ha.later hC) (hb.later hC) (by omega) (by omega) (by omega)) ?_
        have hBu : bB ≤ u.heap.size := Nat.le_trans HBL.out hC.size
        rintro e u' ⟨s1, no1, nn1, nc1, eo1, en1, ec1, rfl, cq, tn, te, lb⟩
        exact ⟨_, rfl, hC.trans (lb.mono hC.size), lb, ⟨s1, no1, nn1, nc1, eo1, en1, ec1, rfl, cq, tn.mono hBu, te.mono hBu⟩⟩
      · have e5 : ρ (.tmp 5) = .pointer (some ⟨gX, 0, none⟩) := ho 5 (by simp)
        obtain ⟨c0, c1, c2⟩ := (bX.later hC).cells
        refine Goes.pure (.agg #[.bool s, .slice o1 n1 dx1, .slice o2 n2 dx2]) ?_ ⟨hC, Below.refl _ _, rfl⟩
        unfold Goes
        go_simp
      · have e50 : ρ (.tmp 50) = .agg #[.bool s, .slice o1 n1 dx1, .slice o2 n2 dx2] := hd (19, 50) (by simp)
        refine Goes.call 19 #[.agg #[.bool s, .slice o1 n1 dx1, .slice o2 n2 dx2]] (by go_simp) ?_
        refine Calls.mono (ratNeg_n (ha.later hC) (by omega) (by omega)) ?_
        have hBu : bB ≤ u.heap.size := Nat.le_trans HBL.out hC.size
        rintro e u' ⟨s1, no1, nn1, nc1, eo1, en1, ec1, rfl, cq, tn, te, lb⟩
        exact ⟨_, rfl, hC.trans (lb.mono hC.size), lb, ⟨s1, no1, nn1, nc1, eo1, en1, ec1, rfl, cq, tn.mono hBu, te.mono hBu⟩⟩
      · have e5 : ρ (.tmp 5) = .pointer (some ⟨gX, 0, none⟩) := ho 5 (by simp)
        obtain ⟨c0, c1, c2⟩ := (bX.later hC).cells
        refine Goes.pure (.agg #[.bool s, .slice o1 n1 dx1, .slice o2 n2 dx2]) ?_ ⟨hC, Below.refl _ _, rfl⟩
        unfold Goes
        go_simp
      · have e52 : ρ (.tmp 52) = .agg #[.bool s, .slice o1 n1 dx1, .slice o2 n2 dx2] := hd (21, 52) (by simp)
        refine Goes.call 17 #[.agg #[.bool s, .slice o1 n1 dx1, .slice o2 n2 dx2]] (by go_simp) ?_
        refine Calls.mono (ratAbs_n (ha.later hC) (by omega) (by omega)) ?_
        have hBu : bB ≤ u.heap.size := Nat.le_trans HBL.out hC.size
        rintro e u' ⟨s1, no1, nn1, nc1, eo1, en1, ec1, rfl, cq, tn, te, lb⟩
        exact ⟨_, rfl, hC.trans (lb.mono hC.size), lb, ⟨s1, no1, nn1, nc1, eo1, en1, ec1, rfl, cq, tn.mono hBu, te.mono hBu⟩⟩
      · have e5 : ρ (.tmp 5) = .pointer (some ⟨gX, 0, none⟩) := ho 5 (by simp)
        obtain ⟨c0, c1, c2⟩ := (bX.later hC).cells
        refine Goes.pure (.agg #[.bool s, .slice o1 n1 dx1, .slice o2 n2 dx2]) ?_ ⟨hC, Below.refl _ _, rfl⟩
        unfold Goes
        go_simp
      · have e54 : ρ (.tmp 54) = .agg #[.bool s, .slice o1 n1 dx1, .slice o2 n2 dx2] := hd (23, 54) (by simp)
        refine Goes.call 36 #[.agg #[.bool s, .slice o1 n1 dx1, .slice o2 n2 dx2]] (by go_simp) ?_
        refine Calls.mono (ratFloor_n (ha.later hC) (by omega) (by omega)) ?_
        have hBu : bB ≤ u.heap.size := Nat.le_trans HBL.out hC.size
        rintro e u' ⟨s1, no1, nn1, nc1, eo1, en1, ec1, rfl, cq, tn, te, lb⟩
        exact ⟨_, rfl, hC.trans (lb.mono hC.size), lb, ⟨s1, no1, nn1, nc1, eo1, en1, ec1, rfl, cq, tn.mono hBu, te.mono hBu⟩⟩
      · have e6 : ρ (.tmp 6) = .pointer (some ⟨g6, 0, none⟩) := ho 6 (by simp)
        obtain ⟨c0, c1, c2⟩ := (b6.later hC).cells
        refine Goes.pure (.agg #[.bool s1, .slice no1 nn1 nc1, .slice eo1 en1 ec1]) ?_ ⟨hC, Below.refl _ _, rfl⟩
        unfold Goes
        go_simp
      · obtain ⟨s32, no32, nn32, nc32, eo32, en32, ec32, e32, k32, t32, t32'⟩ : VCn (qa) (K) (bB) (ρ (.tmp 32)) u := hd (1, 32) (by simp)
        obtain ⟨s35, no35, nn35, nc35, eo35, en35, ec35, e35, k35, t35, t35'⟩ : VCn (qa) (1 * (K + 1) + 1) (bB) (ρ (.tmp 35)) u := hd (4, 35) (by simp)
        obtain ⟨s39, no39, nn39, nc39, eo39, en39, ec39, e39, k39, t39, t39'⟩ : VCn (qa + qb) (2 * (K + 1) + 1) (bB) (ρ (.tmp 39)) u := hd (8, 39) (by simp)
        obtain ⟨s42, no42, nn42, nc42, eo42, en42, ec42, e42, k42, t42, t42'⟩ : VCn (qa) (1 * (K + 1) + 1) (bB) (ρ (.tmp 42)) u := hd (11, 42) (by simp)
        obtain ⟨s46, no46, nn46, nc46, eo46, en46, ec46, e46, k46, t46, t46'⟩ : VCn (qa * qb) (2 * (K + 1) + 1) (bB) (ρ (.tmp 46)) u := hd (15, 46) (by simp)
        obtain ⟨s49, no49, nn49, nc49, eo49, en49, ec49, e49, k49, t49, t49'⟩ : VCn (qa - (qb)) (K + (K) + 1) (bB) (ρ (.tmp 49)) u := hd (18, 49) (by simp)
        obtain ⟨s51, no51, nn51, nc51, eo51, en51, ec51, e51, k51, t51, t51'⟩ : VCn (-(qa)) (K) (bB) (ρ (.tmp 51)) u := hd (20, 51) (by simp)
        obtain ⟨s53, no53, nn53, nc53, eo53, en53, ec53, e53, k53, t53, t53'⟩ : VCn (qabs (qa)) (K) (bB) (ρ (.tmp 53)) u := hd (22, 53) (by simp)
        obtain ⟨s55, no55, nn55, nc55, eo55, en55, ec55, e55, k55, t55, t55'⟩ : VCn (qfl (qa)) (K + 1) (bB) (ρ (.tmp 55)) u := hd (24, 55) (by simp)
        have e56 : ρ (.tmp 56) = .agg #[.bool s1, .slice no1 nn1 nc1, .slice eo1 en1 ec1] := hd (25, 56) (by simp)
        have lb : Below u.heap.size u (u.alloc (.cells #[.bool s32, .slice no32 nn32 nc32, .slice eo32 en32 ec32, .bool s35, .slice no35 nn35 nc35, .slice eo35 en35 ec35, .bool s39, .slice no39 nn39 nc39, .slice eo39 en39 ec39, .bool s42, .slice no42 nn42 nc42, .slice eo42 en42 ec42, .bool s46, .slice no46 nn46 nc46, .slice eo46 en46 ec46, .bool s49, .slice no49 nn49 nc49, .slice eo49 en49 ec49, .bool s51, .slice no51 nn51 nc51, .slice eo51 en51 ec51, .bool s53, .slice no53 nn53 nc53, .slice eo53 en53 ec53, .bool s55, .slice no55 nn55 nc55, .slice eo55 en55 ec55, .bool s1, .slice no1 nn1 nc1, .slice eo1 en1 ec1] 24)) := (Below.refl _ _).alloc (Nat.le_refl _) _
        have hBu : bB ≤ u.heap.size := Nat.le_trans HBL.out hC.size
        have hcl : CL u (3 * K + 3) (bB) [⟨s32, no32, nn32, nc32, eo32, en32, ec32⟩, ⟨s35, no35, nn35, nc35, eo35, en35, ec35⟩, ⟨s39, no39, nn39, nc39, eo39, en39, ec39⟩, ⟨s42, no42, nn42, nc42, eo42, en42, ec42⟩, ⟨s46, no46, nn46, nc46, eo46, en46, ec46⟩, ⟨s49, no49, nn49, nc49, eo49, en49, ec49⟩, ⟨s51, no51, nn51, nc51, eo51, en51, ec51⟩, ⟨s53, no53, nn53, nc53, eo53, en53, ec53⟩, ⟨s55, no55, nn55, nc55, eo55, en55, ec55⟩, ⟨s1, no1, nn1, nc1, eo1, en1, ec1⟩] [qa, qa, qa + qb, qa, qa * qb, qa - (qb), -(qa), qabs (qa), qfl (qa), qa / qb] := ⟨⟨k32.mono (by omega), t32, t32'⟩, ⟨k35.mono (by omega), t35, t35'⟩, ⟨k39.mono (by omega), t39, t39'⟩, ⟨k42.mono (by omega), t42, t42'⟩, ⟨k46.mono (by omega), t46, t46'⟩, ⟨k49.mono (by omega), t49, t49'⟩, ⟨k51.mono (by omega), t51, t51'⟩, ⟨k53.mono (by omega), t53, t53'⟩, ⟨k55.mono (by omega), t55, t55'⟩, ⟨(cq.later hC).mono (by omega), t1, t2⟩, trivial⟩
        refine Goes.run (.slice (some ⟨u.heap.size, 0, none⟩) 10 10) (u.alloc (.cells #[.bool s32, .slice no32 nn32 nc32, .slice eo32 en32 ec32, .bool s35, .slice no35 nn35 nc35, .slice eo35 en35 ec35, .bool s39, .slice no39 nn39 nc39, .slice eo39 en39 ec39, .bool s42, .slice no42 nn42 nc42, .slice eo42 en42 ec42, .bool s46, .slice no46 nn46 nc46, .slice eo46 en46 ec46, .bool s49, .slice no49 nn49 nc49, .slice eo49 en49 ec49, .bool s51, .slice no51 nn51 nc51, .slice eo51 en51 ec51, .bool s53, .slice no53 nn53 nc53, .slice eo53 en53 ec53, .bool s55, .slice no55 nn55 nc55, .slice eo55 en55 ec55, .bool s1, .slice no1 nn1 nc1, .slice eo1 en1 ec1] 24)) (by go_simp) ⟨hC.trans (lb.mono hC.size), lb, ?_⟩
        exact ⟨u.heap.size, [⟨s32, no32, nn32, nc32, eo32, en32, ec32⟩, ⟨s35, no35, nn35, nc35, eo35, en35, ec35⟩, ⟨s39, no39, nn39, nc39, eo39, en39, ec39⟩, ⟨s42, no42, nn42, nc42, eo42, en42, ec42⟩, ⟨s46, no46, nn46, nc46, eo46, en46, ec46⟩, ⟨s49, no49, nn49, nc49, eo49, en49, ec49⟩, ⟨s51, no51, nn51, nc51, eo51, en51, ec51⟩, ⟨s53, no53, nn53, nc53, eo53, en53, ec53⟩, ⟨s55, no55, nn55, nc55, eo55, en55, ec55⟩, ⟨s1, no1, nn1, nc1, eo1, en1, ec1⟩], rfl, hBu, heap_alloc_new _ _, hcl.later lb⟩
    · intro vs3 w4 hC hv
      obtain ⟨bL, rs, e57, hbL, hL, cl⟩ : VLC [qa, qa, qa + qb, qa, qa * qb, qa - (qb), -(qa), qabs (qa), qfl (qa), qa / qb] (3 * K + 3) bB (vs3 26) w4 := hv 26 (by omega)
      clear hv
      rw [show ([qa, qa, qa + qb, qa, qa * qb, qa - (qb), -(qa), qabs (qa), qfl (qa), qa / qb] : List Rat).length = 10 from rfl] at e57
      obtain ⟨qs, hqs⟩ : ∃ qs, qs = ([qa, qa, qa + qb, qa, qa * qb, qa - (qb), -(qa), qabs (qa), qfl (qa), qa / qb] : List Rat) := ⟨_, rfl⟩
      have HQS : Hid (qs.length = 10) := by show qs.length = 10; rw [hqs]; rfl
      rw [← hqs] at cl
      clear hqs
      replace bX := bX.later hC
      replace x1 := x1.later hC
      replace x2 := x2.later hC
      have B4 := B3.trans (hC.mono B3.size)
      clear hC ha hb by_ cq b6 t1 t2 B3 HB6 HBL
      simp only [puts, List.take, List.drop, Act.put, List.setIfInBounds_toArray, List.set_cons_succ, List.set_cons_zero, Nat.reduceAdd, e57]
      clear e57
      go_wp2
      obtain ⟨bS, hbS⟩ : ∃ bS, bS = w4.heap.size := ⟨_, rfl⟩
      have HBS : Hid (w4.heap.size = bS) := hbS.symm
      rw [← hbS]
      have HS0 : Hid (g ≤ bS ∧ gX < bS ∧ bB ≤ bS) := by
        have h1 := B4.size
        have h2 := bX.lt
        have h3 : bL < w4.heap.size := (Array.getElem?_eq_some_iff.1 hL).1
        rw [HG.out] at h1
        exact ⟨by omega, by omega, by omega⟩
      have own0 : (w4.alloc (.cells #[] 24)).ownsRow bS 24 3 (.slice (some ⟨bS, 0, none⟩) 0 0) 0 [] := by
        rw [hbS]
        exact World.ownsRow_lit w4 #[] 0 (Nat.le_refl _) (by unfold maxLen; omega) (by simp)
      have bel0 : Below bS w4 (w4.alloc (.cells #[] 24)) := by rw [hbS]; exact (Below.refl _ _).alloc (Nat.le_refl _) _
      obtain ⟨iR, hiR, hzR0, hzR1, hzR2⟩ := info_parts infoRat
      clear hbS
      generalize w4.alloc (.cells #[] 24) = w5 at *
      go_loopw [9, 10] (fun sv iv wr => ∃ k ss, k ≤ 10 ∧ iv = .int .i64 ((k : Nat) : Int) ∧ Below bS w4 wr ∧ wr.ownsRow bS 24 3 sv k (RP.all ss) ∧ SLo wr bS ss (qs.take k)) (fun _ iv _ => 10 - (intOf iv).toNat)
      case atStart => exact ⟨0, [], by omega, rfl, bel0, own0, by rw [List.take_zero]; trivial⟩
      case round =>
        obtain ⟨k, ss, hk, rfl, hbl, hown, hsl⟩ := hrel
        clear own0 bel0
        by_cases hlt : k < 10
        · obtain ⟨⟨s3, no3, nn3, nc3, eo3, en3, ec3⟩, hr3, cqr, nw1, nw2⟩ := cl.get k (by rw [HQS.out]; exact hlt)
          simp only at cqr nw1 nw2
          have hbw : bS ≤ wr.heap.size := by rw [← HBS.out]; exact hbl.size
          have hbl4 : Below w4.heap.size w4 wr := by rw [HBS.out]; exact hbl
          have hL4 : wr.heap[bL]? = some (.cells (RP.all rs).toArray 24 (0, 0)) := by rw [hbl4.block bL (Array.getElem?_eq_some_iff.1 hL).1]; exact hL
          replace cqr := cqr.later hbl4
          obtain ⟨qk, hqk⟩ : ∃ qk, qs.getD k 0 = qk := ⟨_, rfl⟩
          have HQK : Hid _ := hqk
          rw [hqk] at cqr
          have hl1 := cqr.ln
          have hl2 := cqr.ld
          clear hqk nw1 nw2
          have hread : ∀ u, Below wr.heap.size wr u → u.cell? ⟨bL, k * 3, none⟩ = some (.bool s3) ∧ u.cell? ⟨bL, k * 3 + 1, none⟩ = some (.slice no3 nn3 nc3) ∧ u.cell? ⟨bL, k * 3 + 2, none⟩ = some (.slice eo3 en3 ec3) := fun u hu => row_cells (by rw [hu.block bL (Array.getElem?_eq_some_iff.1 hL4).1]; exact hL4) hr3
          have HRD : Hid _ := hread
          clear hread
          go_wp2
          have hread := HRD.out
          have HLst : Lst [VV (u9), VV (.slice (some ⟨bL, 0, none⟩) 10 10), VV (.int .i64 ((k : Nat) : Int)), VV (.pointer (some ⟨bL, k * 3, none⟩)), VV (.pointer (some ⟨bL, k * 3, none⟩)), VV (.bool s3), VE bS, VV (.slice (some ⟨bL, 0, none⟩) 10 10), VV (.int .i64 ((k : Nat) : Int)), VV (.pointer (some ⟨bL, k * 3, none⟩)), VV (.pointer (some ⟨bL, k * 3 + 1, none⟩)), VV (.slice no3 nn3 nc3), VO (toL qk.num.natAbs) bS, VE bS, VV (.slice (some ⟨bL, 0, none⟩) 10 10), VV (.int .i64 ((k : Nat) : Int)), VV (.pointer (some ⟨bL, k * 3, none⟩)), VV (.pointer (some ⟨bL, k * 3 + 2, none⟩)), VV (.slice eo3 en3 ec3), VO (toL qk.den) bS, VX s3 (toL qk.num.natAbs) (toL qk.den) bS, VZ s3 (toL qk.num.natAbs) (toL qk.den) bS] := ⟨VV.lasts _, VV.lasts _, VV.lasts _, VV.lasts _, VV.lasts _, VV.lasts _, VE.lasts _, VV.lasts _, VV.lasts _, VV.lasts _, VV.lasts _, VV.lasts _, VO.lasts _ _, VE.lasts _, VV.lasts _, VV.lasts _, VV.lasts _, VV.lasts _, VV.lasts _, VO.lasts _ _, VX.lasts _ _ _ _, VZ.lasts _ _ _ _, trivial⟩
          refine wp_region_kahn 22 135 [([], [9]), ([], [8]), ([], [10]), ([(1, 66), (2, 67)], []), ([(3, 68)], []), ([(4, 69)], []), ([], []), ([], [8]), ([], [10]), ([(7, 72), (8, 73)], []), ([(9, 74)], []), ([(10, 75)], []), ([(6, 71), (11, 76)], []), ([], []), ([], [8]), ([], [10]), ([(14, 79), (15, 80)], []), ([(16, 81)], []), ([(17, 82)], []), ([(13, 78), (18, 83)], []), ([(5, 70), (12, 77), (19, 84)], []), ([(20, 85)], [])]
            (fun u => Below wr.heap.size wr u) (fun u u' => Below u.heap.size u u')
            (Sp [VV (u9), VV (.slice (some ⟨bL, 0, none⟩) 10 10), VV (.int .i64 ((k : Nat) : Int)), VV (.pointer (some ⟨bL, k * 3, none⟩)), VV (.pointer (some ⟨bL, k * 3, none⟩)), VV (.bool s3), VE bS, VV (.slice (some ⟨bL, 0, none⟩) 10 10), VV (.int .i64 ((k : Nat) : Int)), VV (.pointer (some ⟨bL, k * 3, none⟩)), VV (.pointer (some ⟨bL, k * 3 + 1, none⟩)), VV (.slice no3 nn3 nc3), VO (toL qk.num.natAbs) bS, VE bS, VV (.slice (some ⟨bL, 0, none⟩) 10 10), VV (.int .i64 ((k : Nat) : Int)), VV (.pointer (some ⟨bL, k * 3, none⟩)), VV (.pointer (some ⟨bL, k * 3 + 2, none⟩)), VV (.slice eo3 en3 ec3), VO (toL qk.den) bS, VX s3 (toL qk.num.natAbs) (toL qk.den) bS, VZ s3 (toL qk.num.natAbs) (toL qk.den) bS])
            (by kernel_rfl) rfl (by kernel_rfl) (Below.refl _ _).drew (fun k v u u' _ hg hs => Sp.lasts HLst k v u u' hg hs) ?_ ?_
          · refine ⟨.inl ⟨by simp, fun ρ u hC hc hf hd ho => ?_⟩, .inl ⟨by simp, fun ρ u hC hc hf hd ho => ?_⟩, .inl ⟨by simp, fun ρ u hC hc hf hd ho => ?_⟩, .inl ⟨by simp, fun ρ u hC hc hf hd ho => ?_⟩, .inl ⟨by simp, fun ρ u hC hc hf hd ho => ?_⟩, .inl ⟨by simp, fun ρ u hC hc hf hd ho => ?_⟩, .inl ⟨by simp, fun ρ u hC hc hf hd ho => ?_⟩, .inl ⟨by simp, fun ρ u hC hc hf hd ho => ?_⟩, .inl ⟨by simp, fun ρ u hC hc hf hd ho => ?_⟩, .inl ⟨by simp, fun ρ u hC hc hf hd ho => ?_⟩, .inl ⟨by simp, fun ρ u hC hc hf hd ho => ?_⟩, .inl ⟨by simp, fun ρ u hC hc hf hd ho => ?_⟩, .inl ⟨by simp, fun ρ u hC hc hf hd ho => ?_⟩, .inl ⟨by simp, fun ρ u hC hc hf hd ho => ?_⟩, .inl ⟨by simp, fun ρ u hC hc hf hd ho => ?_⟩, .inl ⟨by simp, fun ρ u hC hc hf hd ho => ?_⟩, .inl ⟨by simp, fun ρ u hC hc hf hd ho => ?_⟩, .inl ⟨by simp, fun ρ u hC hc hf hd ho => ?_⟩, .inl ⟨by simp, fun ρ u hC hc hf hd ho => ?_⟩, .inl ⟨by simp, fun ρ u hC hc hf hd ho => ?_⟩, .inl ⟨by simp, fun ρ u hC hc hf hd ho => ?_⟩, .inl ⟨by simp, fun ρ u hC hc hf hd ho => ?_⟩, trivial⟩
            · have e9 : ρ (.tmp 9) = u9 := ho 9 (by simp)
              refine Goes.pure (u9) ?_ ⟨hC, Below.refl _ _, rfl⟩
              unfold Goes
              go_simp
            · have e8 : ρ (.tmp 8) = .slice (some ⟨bL, 0, none⟩) 10 10 := ho 8 (by simp)
              refine Goes.pure (.slice (some ⟨bL, 0, none⟩) 10 10) ?_ ⟨hC, Below.refl _ _, rfl⟩
              unfold Goes
              go_simp
            · have e10 : ρ (.tmp 10) = .int .i64 ((k : Nat) : Int) := ho 10 (by simp)
              refine Goes.pure (.int .i64 ((k : Nat) : Int)) ?_ ⟨hC, Below.refl _ _, rfl⟩
              unfold Goes
              go_simp
            · have e66 : ρ (.tmp 66) = .slice (some ⟨bL, 0, none⟩) 10 10 := hd (1, 66) (by simp)
              have e67 : ρ (.tmp 67) = .int .i64 ((k : Nat) : Int) := hd (2, 67) (by simp)
              refine Goes.pure (.pointer (some ⟨bL, k * 3, none⟩)) ?_ ⟨hC, Below.refl _ _, rfl⟩
              unfold Goes
              go_simp
            · have e68 : ρ (.tmp 68) = .pointer (some ⟨bL, k * 3, none⟩) := hd (3, 68) (by simp)
              refine Goes.pure (.pointer (some ⟨bL, k * 3, none⟩)) ?_ ⟨hC, Below.refl _ _, rfl⟩
              unfold Goes
              go_simp
            · have e69 : ρ (.tmp 69) = .pointer (some ⟨bL, k * 3, none⟩) := hd (4, 69) (by simp)
              obtain ⟨c0, c1, c2⟩ := hread u hC
              refine Goes.pure (.bool s3) ?_ ⟨hC, Below.refl _ _, rfl⟩
              unfold Goes
              go_simp
            · skip
              have lb : Below u.heap.size u (u.alloc (.cells #[] 40)) := (Below.refl _ _).alloc (Nat.le_refl _) _
              refine Goes.run (.slice (some ⟨u.heap.size, 0, none⟩) 0 0) (u.alloc (.cells #[] 40)) (by go_simp) ⟨hC.trans (lb.mono hC.size), lb, ⟨u.heap.size, rfl, (Nat.le_trans hbw hC.size), heap_alloc_new _ _⟩⟩
            · have e8 : ρ (.tmp 8) = .slice (some ⟨bL, 0, none⟩) 10 10 := ho 8 (by simp)
              refine Goes.pure (.slice (some ⟨bL, 0, none⟩) 10 10) ?_ ⟨hC, Below.refl _ _, rfl⟩
              unfold Goes
              go_simp
            · have e10 : ρ (.tmp 10) = .int .i64 ((k : Nat) : Int) := ho 10 (by simp)
              refine Goes.pure (.int .i64 ((k : Nat) : Int)) ?_ ⟨hC, Below.refl _ _, rfl⟩
              unfold Goes
              go_simp
            · have e72 : ρ (.tmp 72) = .slice (some ⟨bL, 0, none⟩) 10 10 := hd (7, 72) (by simp)
              have e73 : ρ (.tmp 73) = .int .i64 ((k : Nat) : Int) := hd (8, 73) (by simp)
              refine Goes.pure (.pointer (some ⟨bL, k * 3, none⟩)) ?_ ⟨hC, Below.refl _ _, rfl⟩
              unfold Goes
              go_simp
            · have e74 : ρ (.tmp 74) = .pointer (some ⟨bL, k * 3, none⟩) := hd (9, 74) (by simp)
              refine Goes.pure (.pointer (some ⟨bL, k * 3 + 1, none⟩)) ?_ ⟨hC, Below.refl _ _, rfl⟩
              unfold Goes
              go_simp
            · have e75 : ρ (.tmp 75) = .pointer (some ⟨bL, k * 3 + 1, none⟩) := hd (10, 75) (by simp)
              obtain ⟨c0, c1, c2⟩ := hread u hC
              refine Goes.pure (.slice no3 nn3 nc3) ?_ ⟨hC, Below.refl _ _, rfl⟩
              unfold Goes
              go_simp
            · obtain ⟨g71, e71, h71, b71⟩ : VE bS (ρ (.tmp 71)) u := hd (6, 71) (by simp)
              have e76 : ρ (.tmp 76) = .slice no3 nn3 nc3 := hd (11, 76) (by simp)
              obtain ⟨ao, cap, u', hr, ho2, lb⟩ := app_copy u _ g71 b71 h71 (cqr.num.later hC) (by omega) 22
              exact Goes.app (.tmp 71) (.tmp 76) rfl e71 e76 hr ⟨hC.trans (lb.mono hC.size), lb, ⟨ao, _, cap, rfl, ho2⟩⟩
            · skip
              have lb : Below u.heap.size u (u.alloc (.cells #[] 40)) := (Below.refl _ _).alloc (Nat.le_refl _) _
              refine Goes.run (.slice (some ⟨u.heap.size, 0, none⟩) 0 0) (u.alloc (.cells #[] 40)) (by go_simp) ⟨hC.trans (lb.mono hC.size), lb, ⟨u.heap.size, rfl, (Nat.le_trans hbw hC.size), heap_alloc_new _ _⟩⟩
            · have e8 : ρ (.tmp 8) = .slice (some ⟨bL, 0, none⟩) 10 10 := ho 8 (by simp)
              refine Goes.pure (.slice (some ⟨bL, 0, none⟩) 10 10) ?_ ⟨hC, Below.refl _ _, rfl⟩
              unfold Goes
              go_simp
            · have e10 : ρ (.tmp 10) = .int .i64 ((k : Nat) : Int) := ho 10 (by simp)
              refine Goes.pure (.int .i64 ((k : Nat) : Int)) ?_ ⟨hC, Below.refl _ _, rfl⟩
              unfold Goes
              go_simp
            · have e79 : ρ (.tmp 79) = .slice (some ⟨bL, 0, none⟩) 10 10 := hd (14, 79) (by simp)
              have e80 : ρ (.tmp 80) = .int .i64 ((k : Nat) : Int) := hd (15, 80) (by simp)
              refine Goes.pure (.pointer (some ⟨bL, k * 3, none⟩)) ?_ ⟨hC, Below.refl _ _, rfl⟩
              unfold Goes
              go_simp
            · have e81 : ρ (.tmp 81) = .pointer (some ⟨bL, k * 3, none⟩) := hd (16, 81) (by simp)
              refine Goes.pure (.pointer (some ⟨bL, k * 3 + 2, none⟩)) ?_ ⟨hC, Below.refl _ _, rfl⟩
              unfold Goes
              go_simp
            · have e82 : ρ (.tmp 82) = .pointer (some ⟨bL, k * 3 + 2, none⟩) := hd (17, 82) (by simp)
              obtain ⟨c0, c1, c2⟩ := hread u hC
              refine Goes.pure (.slice eo3 en3 ec3) ?_ ⟨hC, Below.refl _ _, rfl⟩
              unfold Goes
              go_simp
            · obtain ⟨g78, e78, h78, b78⟩ : VE bS (ρ (.tmp 78)) u := hd (13, 78) (by simp)
              have e83 : ρ (.tmp 83) = .slice eo3 en3 ec3 := hd (18, 83) (by simp)
              obtain ⟨ao, cap, u', hr, ho2, lb⟩ := app_copy u _ g78 b78 h78 (cqr.den.later hC) (by omega) 22
              exact Goes.app (.tmp 78) (.tmp 83) rfl e78 e83 hr ⟨hC.trans (lb.mono hC.size), lb, ⟨ao, _, cap, rfl, ho2⟩⟩
            · have e70 : ρ (.tmp 70) = .bool s3 := hd (5, 70) (by simp)
              obtain ⟨o77, n77, c77, e77, k77⟩ : VO (toL qk.num.natAbs) bS (ρ (.tmp 77)) u := hd (12, 77) (by simp)
              obtain ⟨o84, n84, c84, e84, k84⟩ : VO (toL qk.den) bS (ρ (.tmp 84)) u := hd (19, 84) (by simp)
              refine Goes.pure (.agg #[.bool s3, .slice o77 n77 c77, .slice o84 n84 c84]) ?_ ⟨hC, Below.refl _ _, ⟨o77, n77, c77, o84, n84, c84, rfl, k77, k84⟩⟩
              unfold Goes
              go_simp
            · obtain ⟨o185, n185, c185, o285, n285, c285, e85, k85, j85⟩ : VX s3 (toL qk.num.natAbs) (toL qk.den) bS (ρ (.tmp 85)) u := hd (20, 85) (by simp)
              have lb : Below u.heap.size u (u.alloc (.cells #[.bool s3, .slice o185 n185 c185, .slice o285 n285 c285] 24)) := (Below.refl _ _).alloc (Nat.le_refl _) _
              refine Goes.run (.slice (some ⟨u.heap.size, 0, none⟩) 1 1) (u.alloc (.cells #[.bool s3, .slice o185 n185 c185, .slice o285 n285 c285] 24)) (by go_simp) ⟨hC.trans (lb.mono hC.size), lb, ⟨_, _, _, _, _, _, _, rfl, heap_alloc_new _ _, k85.later lb, j85.later lb⟩⟩
          · intro vs u hC hv
            obtain ⟨b1, p1, m1, d1, p2, m2, d2, e86, hb1, y1, y2⟩ : VZ s3 (toL qk.num.natAbs) (toL qk.den) bS (vs 21) u := hv 21 (by omega)
            have e65 : vs 0 = u9 := hv 0 (by omega)
            simp only [puts, List.take, List.drop, Act.put, List.setIfInBounds_toArray, List.set_cons_succ, List.set_cons_zero, Nat.reduceAdd, e86, e65]
            clear hv hread HRD
            have hown2 : u.ownsRow bS 24 3 u9 k (RP.all ss) := own_later hown hC
            have hbl2 := hbl.trans (hC.mono hbw)
            have hsl2 := hsl.later hC
            have hbu : bS ≤ u.heap.size := Nat.le_trans hbw hC.size
            refine wpList_append_own u rfl (.tmp 65) (.tmp 86) 39 rfl bS 24 iR _ 3 56 Try.underlying39 hiR hzR0 hzR1 hzR2 rfl (by decide) u9 k (RP.all ss) rfl hown2 ⟨b1, 0, none⟩ 1 1 [.bool s3, .slice p1 m1 d1, .slice p2 m2 d2] rfl rfl ?_ ?_ (by unfold maxLen; omega) (by omega) hbu ?_
            · exact lit_cells hb1
            · intro v hv
              simp only [List.mem_cons, List.not_mem_nil, or_false] at hv
              rcases hv with rfl | rfl | rfl <;> rfl
            · intro v' w' ho' hg' _
              have hbl3 := hbl2.grown hg' hbu (fun kk hkk => (hown2.lt kk hkk).1)
              have hsl3 := hsl2.grown hg' (own_tag hown2)
              have z1 := y1.grown hg' (own_tag hown2)
              have z2 := y2.grown hg' (own_tag hown2)
              have HSN : Hid (SLo w' bS (ss ++ [⟨s3, p1, m1, d1, p2, m2, d2⟩]) (qs.take (k + 1))) := by
                show SLo w' bS _ _
                rw [take_snoc (by rw [HQS.out]; exact hlt), HQK.out]
                exact hsl3.snoc ⟨cqr.sgn, z1, z2⟩
              have HOW : Hid (w'.ownsRow bS 24 3 v' (k + 1) (RP.all (ss ++ [⟨s3, p1, m1, d1, p2, m2, d2⟩]))) := by
                show w'.ownsRow bS _ 3 v' (k + 1) _
                rw [RP.all_append]
                exact ho'
              have HBL3 : Hid (Below bS w4 w') := hbl3
              clear hbl3 hsl3 z1 z2 ho' hg' hbl2 hsl2 hown2 hown hsl hbl hbl4 hL4 y1 y2 hb1
              go_wp2
              go_roundw
              case rel => exact ⟨k + 1, _, by omega, by go_num, HBL3.out, HOW.out, HSN.out⟩
              case measure => simp [intOf]; omega
        · obtain rfl : k = 10 := by omega
          rw [List.take_of_length_le (by rw [HQS.out]; exact Nat.le_refl _)] at hsl
          have hbl4 : Below w4.heap.size w4 wr := by rw [HBS.out]; exact hbl
          have hL4 : wr.heap[bL]? = some (.cells (RP.all rs).toArray 24 (0, 0)) := by rw [hbl4.block bL (Array.getElem?_eq_some_iff.1 hL).1]; exact hL
          have cl4 := cl.later hbl4
          have bX4 := bX.later hbl4
          have x14 := x1.later hbl4
          have hile1 : n1 ≤ dx1 := x1.rd.le
          have hile2 : n2 ≤ dx2 := x2.rd.le
          have x24 := x2.later hbl4
          have B5 := B4.trans (hbl4.mono B4.size)
          have CS : Cst w wr gX bL bB bS (3 * K + 3) s o1 n1 dx1 o2 n2 dx2 rs ss qs u9 := ⟨B5, bX4, ⟨xs, x14⟩, ⟨ys, x24⟩, hL4, cl4, hown, hsl⟩
          obtain ⟨gS, capS, hu9, hcapS⟩ : ∃ gS capS, u9 = .slice (some ⟨gS, 0, none⟩) 10 capS ∧ 10 ≤ capS := by
            rcases hown.2 with ⟨_, h0⟩ | ⟨gS, capS, curS, h1, _, _, h4, _⟩
            · omega
            · exact ⟨gS, capS, h1, h4⟩
          subst hu9
          clear hbl hbl4 hL cl bX x1 x2 B4 hlt hk B5 bX4 x14 x24 hL4 cl4 hown hsl
          go_wp2
          go_loopw [11] (fun iv wr => ∃ i, i ≤ n1 ∧ iv = .int .i64 ((i : Nat) : Int) ∧ Cst w wr gX bL bB bS (3 * K + 3) s o1 n1 dx1 o2 n2 dx2 rs ss qs (.slice (some ⟨gS, 0, none⟩) 10 capS)) (fun iv _ => n1 - (intOf iv).toNat)
          case atStart => exact ⟨0, Nat.zero_le _, rfl, CS⟩
          case round =>
            clear CS
            obtain ⟨i, hi, rfl, CS⟩ := hrel
            obtain ⟨c50, c51, c52⟩ := CS.box.cells
            by_cases hlt : i < n1
            · obtain ⟨zs, hz⟩ := CS.x1
              obtain ⟨k1, cur, ho1, hk1, hcur, _⟩ := hz.inv (by omega)
              obtain ⟨kx1, kx2⟩ := X1.out k1 ho1
              subst ho1
              obtain ⟨z, hz1, hz2, hz3, _⟩ := hz.cell i hlt
              have CS2 := CS.write (k := k1) (i := i) (v := 77) (by omega) hcur (by rw [HG.out]; exact kx1) kx2 HS0.out.2.2
              clear hz hcur CS
              have HC2 : Hid _ := CS2
              clear CS2
              have hile : n1 ≤ dx1 := hile1
              go_wp2
              go_roundw
              case rel => exact ⟨i + 1, by omega, by go_num, HC2.out⟩
              case measure => simp [intOf]; omega
            · have CS1 := CS
              clear CS
              go_wp2
              clear c50 c51 c52
              go_loopw [12] (fun iv wr => ∃ i, i ≤ n2 ∧ iv = .int .i64 ((i : Nat) : Int) ∧ Cst w wr gX bL bB bS (3 * K + 3) s o1 n1 dx1 o2 n2 dx2 rs ss qs (.slice (some ⟨gS, 0, none⟩) 10 capS)) (fun iv _ => n2 - (intOf iv).toNat)
              case atStart => exact ⟨0, Nat.zero_le _, rfl, CS1⟩
              case round =>
                clear CS1
                obtain ⟨i2, hi2, rfl, CS⟩ := hrel
                obtain ⟨c50, c51, c52⟩ := CS.box.cells
                by_cases hlt2 : i2 < n2
                · obtain ⟨zs, hz⟩ := CS.x2
                  obtain ⟨k1, cur, ho1, hk1, hcur, _⟩ := hz.inv (by omega)
                  obtain ⟨kx1, kx2⟩ := X2.out k1 ho1
                  subst ho1
                  obtain ⟨z, hz1, hz2, hz3, _⟩ := hz.cell i2 hlt2
                  have CS2 := CS.write (k := k1) (i := i2) (v := 78) (by omega) hcur (by rw [HG.out]; exact kx1) kx2 HS0.out.2.2
                  clear hz hcur CS
                  have HC2 : Hid _ := CS2
                  clear CS2
                  go_wp2
                  go_roundw
                  case rel => exact ⟨i2 + 1, by omega, by go_num, HC2.out⟩
                  case measure => simp [intOf]; omega
                · have CS1 := CS
                  clear CS
                  go_wp2
                  clear c50 c51 c52
                  go_loopw [13] (fun iv wr => ∃ k, k ≤ 10 ∧ iv = .int .i64 ((k : Nat) : Int) ∧ Cst w wr gX bL bB bS (3 * K + 3) s o1 n1 dx1 o2 n2 dx2 rs ss qs (.slice (some ⟨gS, 0, none⟩) 10 capS)) (fun iv _ => 10 - (intOf iv).toNat)
                  case atStart => exact ⟨0, Nat.zero_le _, rfl, CS1⟩
                  case round =>
                    clear CS1
                    obtain ⟨k, hk, rfl, CS⟩ := hrel
                    by_cases hlt3 : k < 10
                    · obtain ⟨⟨s3, no3, nn3, nc3, eo3, en3, ec3⟩, hr3, cqr, nw1, nw2⟩ := CS.cl.get k (by rw [HQS.out]; exact hlt3)
                      obtain ⟨⟨s4, no4, nn4, nc4, eo4, en4, ec4⟩, hr4, ys4, y1, y2⟩ := CS.sl.get k (by rw [HQS.out]; exact hlt3)
                      simp only at cqr nw1 nw2 ys4 y1 y2
                      generalize qs.getD k 0 = qk at *
                      have HSG : Hid (decide (qk.num < 0) = s3) := cqr.sgn.symm
                      have HSS : Hid (s3 = s4) := by show s3 = s4; rw [cqr.sgn, ys4]
                      have HRQ : Hid (rq s3 (val (toL qk.num.natAbs)) (val (toL qk.den)) = qk) := by show rq s3 _ _ = qk; rw [val_toL, val_toL, cqr.sgn, rq_self]
                      have hl1 := cqr.ln
                      have hl2 := cqr.ld
                      have hl3 : nn4 ≤ 3 * K + 3 := by have a1 := cqr.num.len; have a2 := y1.len; omega
                      have hl4 : en4 ≤ 3 * K + 3 := by have a1 := cqr.den.len; have a2 := y2.len; omega
                      have hread : ∀ u, Below wr.heap.size wr u → (u.cell? ⟨bL, k * 3, none⟩ = some (.bool s3) ∧ u.cell? ⟨bL, k * 3 + 1, none⟩ = some (.slice no3 nn3 nc3) ∧ u.cell? ⟨bL, k * 3 + 2, none⟩ = some (.slice eo3 en3 ec3)) ∧ u.cell? ⟨gS, k * 3, none⟩ = some (.bool s4) ∧ u.cell? ⟨gS, k * 3 + 1, none⟩ = some (.slice no4 nn4 nc4) ∧ u.cell? ⟨gS, k * 3 + 2, none⟩ = some (.slice eo4 en4 ec4) := fun u hu => ⟨row_cells (CS.later hu).at_ hr3, own_cells (CS.later hu).own hr4⟩
                      have HRD : Hid _ := hread
                      have HCS : Hid _ := CS
                      clear hread CS nw1 nw2 ys4
                      go_wp2
                      have hread := HRD.out
                      have HLst : Lst [VV (.slice (some ⟨bL, 0, none⟩) 10 10), VV (.int .i64 ((k : Nat) : Int)), VV (.pointer (some ⟨bL, k * 3, none⟩)), VV (.agg #[.bool s3, .slice no3 nn3 nc3, .slice eo3 en3 ec3]), VV (.slice (some ⟨gS, 0, none⟩) 10 capS), VV (.int .i64 ((k : Nat) : Int)), VV (.pointer (some ⟨gS, k * 3, none⟩)), VV (.agg #[.bool s4, .slice no4 nn4 nc4, .slice eo4 en4 ec4]), VV (.bool true), VV (.bool false), VV (.bool false), VV (.slice (some ⟨bL, 0, none⟩) 10 10), VV (.int .i64 ((k : Nat) : Int)), VV (.pointer (some ⟨bL, k * 3, none⟩)), VV (.agg #[.bool s3, .slice no3 nn3 nc3, .slice eo3 en3 ec3]), VV (.bool true), VV (.bool false)] := ⟨VV.lasts _, VV.lasts _, VV.lasts _, VV.lasts _, VV.lasts _, VV.lasts _, VV.lasts _, VV.lasts _, VV.lasts _, VV.lasts _, VV.lasts _, VV.lasts _, VV.lasts _, VV.lasts _, VV.lasts _, VV.lasts _, VV.lasts _, trivial⟩
                      refine wp_region_kahn 17 135 [([], [8]), ([], [13]), ([(0, 116), (1, 117)], []), ([(2, 118)], []), ([], [9]), ([], [13]), ([(4, 120), (5, 121)], []), ([(6, 122)], []), ([(3, 119), (7, 123)], []), ([(8, 124)], []), ([(9, 125)], []), ([], [8]), ([], [13]), ([(11, 127), (12, 128)], []), ([(13, 129)], []), ([(14, 130)], []), ([(15, 131)], [])]
                        (fun u => Below wr.heap.size wr u) (fun u u' => Below u.heap.size u u')
                        (Sp [VV (.slice (some ⟨bL, 0, none⟩) 10 10), VV (.int .i64 ((k : Nat) : Int)), VV (.pointer (some ⟨bL, k * 3, none⟩)), VV (.agg #[.bool s3, .slice no3 nn3 nc3, .slice eo3 en3 ec3]), VV (.slice (some ⟨gS, 0, none⟩) 10 capS), VV (.int .i64 ((k : Nat) : Int)), VV (.pointer (some ⟨gS, k * 3, none⟩)), VV (.agg #[.bool s4, .slice no4 nn4 nc4, .slice eo4 en4 ec4]), VV (.bool true), VV (.bool false), VV (.bool false), VV (.slice (some ⟨bL, 0, none⟩) 10 10), VV (.int .i64 ((k : Nat) : Int)), VV (.pointer (some ⟨bL, k * 3, none⟩)), VV (.agg #[.bool s3, .slice no3 nn3 nc3, .slice eo3 en3 ec3]), VV (.bool true), VV (.bool false)])
                        (by kernel_rfl) rfl (by kernel_rfl) (Below.refl _ _).drew (fun k v u u' _ hg hs => Sp.lasts HLst k v u u' hg hs) ?_ ?_
                      · refine ⟨.inl ⟨by simp, fun ρ u hC hc hf hd ho => ?_⟩, .inl ⟨by simp, fun ρ u hC hc hf hd ho => ?_⟩, .inl ⟨by simp, fun ρ u hC hc hf hd ho => ?_⟩, .inl ⟨by simp, fun ρ u hC hc hf hd ho => ?_⟩, .inl ⟨by simp, fun ρ u hC hc hf hd ho => ?_⟩, .inl ⟨by simp, fun ρ u hC hc hf hd ho => ?_⟩, .inl ⟨by simp, fun ρ u hC hc hf hd ho => ?_⟩, .inl ⟨by simp, fun ρ u hC hc hf hd ho => ?_⟩, .inl ⟨by simp, fun ρ u hC hc hf hd ho => ?_⟩, .inl ⟨by simp, fun ρ u hC hc hf hd ho => ?_⟩, .inl ⟨by simp, fun ρ u hC hc hf hd ho => ?_⟩, .inl ⟨guard_of rfl fun _ _ h => h, fun ρ u hC hc hf hd ho => ?_⟩, .inl ⟨guard_of rfl fun _ _ h => h, fun ρ u hC hc hf hd ho => ?_⟩, .inl ⟨guard_of rfl fun _ _ h => h, fun ρ u hC hc hf hd ho => ?_⟩, .inl ⟨guard_of rfl fun _ _ h => h, fun ρ u hC hc hf hd ho => ?_⟩, .inl ⟨guard_of rfl fun _ _ h => h, fun ρ u hC hc hf hd ho => ?_⟩, .inl ⟨guard_of rfl fun _ _ h => h, fun ρ u hC hc hf hd ho => ?_⟩, trivial⟩
                        · have e8 : ρ (.tmp 8) = .slice (some ⟨bL, 0, none⟩) 10 10 := ho 8 (by simp)
                          refine Goes.pure (.slice (some ⟨bL, 0, none⟩) 10 10) ?_ ⟨hC, Below.refl _ _, rfl⟩
                          unfold Goes
                          go_simp
                        · have e13 : ρ (.tmp 13) = .int .i64 ((k : Nat) : Int) := ho 13 (by simp)
                          refine Goes.pure (.int .i64 ((k : Nat) : Int)) ?_ ⟨hC, Below.refl _ _, rfl⟩
                          unfold Goes
                          go_simp
                        · have e116 : ρ (.tmp 116) = .slice (some ⟨bL, 0, none⟩) 10 10 := hd (0, 116) (by simp)
                          have e117 : ρ (.tmp 117) = .int .i64 ((k : Nat) : Int) := hd (1, 117) (by simp)
                          refine Goes.pure (.pointer (some ⟨bL, k * 3, none⟩)) ?_ ⟨hC, Below.refl _ _, rfl⟩
                          unfold Goes
                          go_simp
                        · have e118 : ρ (.tmp 118) = .pointer (some ⟨bL, k * 3, none⟩) := hd (2, 118) (by simp)
                          obtain ⟨⟨c0, c1, c2⟩, d0, d1, d2⟩ := hread u hC
                          refine Goes.pure (.agg #[.bool s3, .slice no3 nn3 nc3, .slice eo3 en3 ec3]) ?_ ⟨hC, Below.refl _ _, rfl⟩
                          unfold Goes
                          go_simp
                        · have e9 : ρ (.tmp 9) = .slice (some ⟨gS, 0, none⟩) 10 capS := ho 9 (by simp)
                          refine Goes.pure (.slice (some ⟨gS, 0, none⟩) 10 capS) ?_ ⟨hC, Below.refl _ _, rfl⟩
                          unfold Goes
                          go_simp
                        · have e13 : ρ (.tmp 13) = .int .i64 ((k : Nat) : Int) := ho 13 (by simp)
                          refine Goes.pure (.int .i64 ((k : Nat) : Int)) ?_ ⟨hC, Below.refl _ _, rfl⟩
                          unfold Goes
                          go_simp
                        · have e120 : ρ (.tmp 120) = .slice (some ⟨gS, 0, none⟩) 10 capS := hd (4, 120) (by simp)
                          have e121 : ρ (.tmp 121) = .int .i64 ((k : Nat) : Int) := hd (5, 121) (by simp)
                          refine Goes.pure (.pointer (some ⟨gS, k * 3, none⟩)) ?_ ⟨hC, Below.refl _ _, rfl⟩
                          unfold Goes
                          go_simp
                        · have e122 : ρ (.tmp 122) = .pointer (some ⟨gS, k * 3, none⟩) := hd (6, 122) (by simp)
                          obtain ⟨⟨c0, c1, c2⟩, d0, d1, d2⟩ := hread u hC
                          refine Goes.pure (.agg #[.bool s4, .slice no4 nn4 nc4, .slice eo4 en4 ec4]) ?_ ⟨hC, Below.refl _ _, rfl⟩
                          unfold Goes
                          go_simp
                        · have e119 : ρ (.tmp 119) = .agg #[.bool s3, .slice no3 nn3 nc3, .slice eo3 en3 ec3] := hd (3, 119) (by simp)
                          have e123 : ρ (.tmp 123) = .agg #[.bool s4, .slice no4 nn4 nc4, .slice eo4 en4 ec4] := hd (7, 123) (by simp)
                          refine Goes.call 10 #[.agg #[.bool s3, .slice no3 nn3 nc3, .slice eo3 en3 ec3], .agg #[.bool s4, .slice no4 nn4 nc4, .slice eo4 en4 ec4]] (by go_simp) ?_
                          refine Calls.mono (is3_any u s3 no3 nn3 nc3 eo3 en3 ec3 s4 no4 nn4 nc4 eo4 en4 ec4 _ _ _ _ (cqr.later hC).num (cqr.later hC).den (y1.later hC).rd (y2.later hC).rd (by omega) (by omega) (by omega) (by omega)) ?_
                          rintro e u' ⟨r, rfl, HR, lb⟩
                          exact ⟨_, rfl, hC.trans (lb.mono hC.size), lb, by rw [HR.out.2 ⟨HSS.out, rfl, rfl⟩]; rfl⟩
                        · have e124 : ρ (.tmp 124) = .bool true := hd (8, 124) (by simp)
                          refine Goes.pure (.bool false) ?_ ⟨hC, Below.refl _ _, rfl⟩
                          unfold Goes
                          go_simp
                        · have e125 : ρ (.tmp 125) = .bool false := hd (9, 125) (by simp)
                          refine Goes.pure (.bool false) ?_ ⟨hC, Below.refl _ _, rfl⟩
                          unfold Goes
                          go_simp
                        · have e8 : ρ (.tmp 8) = .slice (some ⟨bL, 0, none⟩) 10 10 := ho 8 (by simp)
                          refine Goes.pure (.slice (some ⟨bL, 0, none⟩) 10 10) ?_ ⟨hC, Below.refl _ _, rfl⟩
                          unfold Goes
                          go_simp
                        · have e13 : ρ (.tmp 13) = .int .i64 ((k : Nat) : Int) := ho 13 (by simp)
                          refine Goes.pure (.int .i64 ((k : Nat) : Int)) ?_ ⟨hC, Below.refl _ _, rfl⟩
                          unfold Goes
                          go_simp
                        · have e127 : ρ (.tmp 127) = .slice (some ⟨bL, 0, none⟩) 10 10 := hd (11, 127) (by simp)
                          have e128 : ρ (.tmp 128) = .int .i64 ((k : Nat) : Int) := hd (12, 128) (by simp)
                          refine Goes.pure (.pointer (some ⟨bL, k * 3, none⟩)) ?_ ⟨hC, Below.refl _ _, rfl⟩
                          unfold Goes
                          go_simp
                        · have e129 : ρ (.tmp 129) = .pointer (some ⟨bL, k * 3, none⟩) := hd (13, 129) (by simp)
                          obtain ⟨⟨c0, c1, c2⟩, d0, d1, d2⟩ := hread u hC
                          refine Goes.pure (.agg #[.bool s3, .slice no3 nn3 nc3, .slice eo3 en3 ec3]) ?_ ⟨hC, Below.refl _ _, rfl⟩
                          unfold Goes
                          go_simp
                        · have e130 : ρ (.tmp 130) = .agg #[.bool s3, .slice no3 nn3 nc3, .slice eo3 en3 ec3] := hd (14, 130) (by simp)
                          refine Goes.call 13 #[.agg #[.bool s3, .slice no3 nn3 nc3, .slice eo3 en3 ec3]] (by go_simp) ?_
                          refine Calls.mono (ratCheck_k (K := 3 * K + 3) (q := qk) (cqr.later hC).num (cqr.later hC).den hl1 hl2 HRQ.out (by omega) (by omega)) ?_
                          rintro e u' ⟨r, rfl, HR, lb⟩
                          exact ⟨_, rfl, hC.trans (lb.mono hC.size), lb, by rw [HR.out.2 ⟨HSG.out, rfl, rfl⟩]; rfl⟩
                        · have e131 : ρ (.tmp 131) = .bool true := hd (15, 131) (by simp)
                          refine Goes.pure (.bool false) ?_ ⟨hC, Below.refl _ _, rfl⟩
                          unfold Goes
                          go_simp
                      · intro vs u hC hv
                        have e126 : vs 10 = .bool false := hv 10 (by omega)
                        have e132 : vs 16 = .bool false := hv 16 (by omega)
                        simp only [puts, List.take, List.drop, Act.put, List.setIfInBounds_toArray, List.set_cons_succ, List.set_cons_zero, Nat.reduceAdd, e126, e132]
                        have HC3 : Hid _ := HCS.out.later hC
                        clear hv hread HRD HCS hC
                        go_wp2
                        go_roundw
                        case rel => exact ⟨k + 1, by omega, by go_num, HC3.out⟩
                        case measure => simp [intOf]; omega
                    · have HB := CS.bel
                      clear CS
                      go_wp2_with fail
                      refine (fixed3_any wr).mono ?_
                      rintro e w9 ⟨rfl, lb⟩
                      go_wp2
                      go_ret
                      exact ⟨rfl, HB.trans (lb.mono HB.size)⟩
end Go.Proofs.Ytagjjhaokhobhaa
