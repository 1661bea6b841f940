/- penumbraref03: Mul. -/
import Derived.Test.YtbobhhnhlgdkiaaGreatJ8
namespace Go.Proofs.YtbobhhnhlgdkiaaGreat
open Go.RowKit M Kahn
set_option maxRecDepth 100000

set_option maxHeartbeats 2000000 in
theorem mul3_any (w : World) (s : Bool) (no : Option Addr) (nn nc : Nat) (eo : Option Addr) (en ec : Nat) (t : Bool) (mo : Option Addr) (mn mc : Nat) (fo : Option Addr) (fn fc K L : Nat) (q p : Rat)
    (h : Qn w s no nn nc eo en ec q K) (h' : Qn w t mo mn mc fo fn fc p L) (hK1 : 1 ≤ K) (hK : K + L + 1 ≤ 17179869184) :
    Calls Tryz.prog 71 #[.agg #[.bool s, .slice no nn nc, .slice eo en ec], .agg #[.bool t, .slice mo mn mc, .slice fo fn fc]] w (Gq w (K + L) (q * p)) := by
  obtain ⟨w0, hw0, bx, by_, rs, b0⟩ := box3 w (.bool s) (.slice no nn nc) (.slice eo en ec) (.bool t) (.slice mo mn mc) (.slice fo fn fc)
  have h0 := h.later b0
  have h0' := h'.later b0
  clear h h'
  obtain ⟨xs, ys, hn, hd', hq⟩ := h0.there
  obtain ⟨us, vs, hm, hf', hp⟩ := h0'.there
  have l1 := h0.ln
  have l2 := h0.ld
  have l3 := h0'.ln
  have l4 := h0'.ld
  clear h0 h0'
  obtain ⟨g, hg⟩ : ∃ g, g = w.heap.size := ⟨_, rfl⟩
  rw [← hg] at bx by_ rs
  go_enter Tryz.func71, Tryz.ntmps71
  go_wp2
  rw [← hw0, ← hg]
  have HG : Hid (w.heap.size = g) := hg.symm
  clear hw0 hg
  have hread : ∀ u, Below w0.heap.size w0 u → (u.cell? ⟨g, 0, none⟩ = some (.bool s) ∧ u.cell? ⟨g, 1, none⟩ = some (.slice no nn nc) ∧ u.cell? ⟨g, 2, none⟩ = some (.slice eo en ec)) ∧ (u.cell? ⟨g + 1, 0, none⟩ = some (.bool t) ∧ u.cell? ⟨g + 1, 1, none⟩ = some (.slice mo mn mc) ∧ u.cell? ⟨g + 1, 2, none⟩ = some (.slice fo fn fc)) := fun u hu => ⟨(bx.later hu).cells, (by_.later hu).cells⟩
  have HLst : Lst [VV (.pointer (some ⟨g, 0, none⟩)), VV (.bool s), VV (.pointer (some ⟨g + 1, 0, none⟩)), VV (.bool t), VV (.bool (s != t)), VV (.pointer (some ⟨g, 1, none⟩)), VV (.slice no nn nc), VV (.pointer (some ⟨g + 1, 1, none⟩)), VV (.slice mo mn mc), VN (val xs * val us) (K + L), VV (.pointer (some ⟨g, 2, none⟩)), VV (.slice eo en ec), VV (.pointer (some ⟨g + 1, 2, none⟩)), VV (.slice fo fn fc), VN (val ys * val vs) (K + L), VR (q * p) (K + L), VC (q * p) (K + L)] := ⟨VV.lasts _, VV.lasts _, VV.lasts _, VV.lasts _, VV.lasts _, VV.lasts _, VV.lasts _, VV.lasts _, VV.lasts _, VN.lasts _ _, VV.lasts _, VV.lasts _, VV.lasts _, VV.lasts _, VN.lasts _ _, VR.lasts _ _, VC.lasts _ _, trivial⟩
  refine wp_region_kahn 17 22 [([], [2]), ([(0, 5)], []), ([], [3]), ([(2, 7)], []), ([(1, 6), (3, 8)], []), ([], [2]), ([(5, 10)], []), ([], [3]), ([(7, 12)], []), ([(6, 11), (8, 13)], []), ([], [2]), ([(10, 15)], []), ([], [3]), ([(12, 17)], []), ([(11, 16), (13, 18)], []), ([(4, 9), (9, 14), (14, 19)], []), ([(15, 20)], [])]
    (fun u => Below w0.heap.size w0 u) (fun u u' => Below u.heap.size u u')
    (Sp [VV (.pointer (some ⟨g, 0, none⟩)), VV (.bool s), VV (.pointer (some ⟨g + 1, 0, none⟩)), VV (.bool t), VV (.bool (s != t)), VV (.pointer (some ⟨g, 1, none⟩)), VV (.slice no nn nc), VV (.pointer (some ⟨g + 1, 1, none⟩)), VV (.slice mo mn mc), VN (val xs * val us) (K + L), VV (.pointer (some ⟨g, 2, none⟩)), VV (.slice eo en ec), VV (.pointer (some ⟨g + 1, 2, none⟩)), VV (.slice fo fn fc), VN (val ys * val vs) (K + L), VR (q * p) (K + L), VC (q * p) (K + L)])
    (by kernel_rfl) rfl (by kernel_rfl) (Below.refl _ _).drew (fun k v u u' _ hg hs => Sp.lasts HLst k v u u' hg hs) ?_ ?_
  · refine ⟨.inl ⟨by simp, fun ρ u hC hc hf hd ho => ?_⟩, .inl ⟨by simp, fun ρ u hC hc hf hd ho => ?_⟩, .inl ⟨by simp, fun ρ u hC hc hf hd ho => ?_⟩, .inl ⟨by simp, fun ρ u hC hc hf hd ho => ?_⟩, .inl ⟨by simp, fun ρ u hC hc hf hd ho => ?_⟩, .inl ⟨by simp, fun ρ u hC hc hf hd ho => ?_⟩, .inl ⟨by simp, fun ρ u hC hc hf hd ho => ?_⟩, .inl ⟨by simp, fun ρ u hC hc hf hd ho => ?_⟩, .inl ⟨by simp, fun ρ u hC hc hf hd ho => ?_⟩, .inl ⟨by simp, fun ρ u hC hc hf hd ho => ?_⟩, .inl ⟨by simp, fun ρ u hC hc hf hd ho => ?_⟩, .inl ⟨by simp, fun ρ u hC hc hf hd ho => ?_⟩, .inl ⟨by simp, fun ρ u hC hc hf hd ho => ?_⟩, .inl ⟨by simp, fun ρ u hC hc hf hd ho => ?_⟩, .inl ⟨by simp, fun ρ u hC hc hf hd ho => ?_⟩, .inl ⟨by simp, fun ρ u hC hc hf hd ho => ?_⟩, .inl ⟨by simp, fun ρ u hC hc hf hd ho => ?_⟩, trivial⟩
    · have e2 : ρ (.tmp 2) = .pointer (some ⟨g, 0, none⟩) := ho 2 (by simp)
      refine Goes.pure (.pointer (some ⟨g, 0, none⟩)) ?_ ⟨hC, Below.refl _ _, rfl⟩
      unfold Goes
      go_simp
    · have e5 : ρ (.tmp 5) = .pointer (some ⟨g, 0, none⟩) := hd (0, 5) (by simp)
      obtain ⟨⟨c0, c1, c2⟩, d0, d1, d2⟩ := hread u hC
      refine Goes.pure (.bool s) ?_ ⟨hC, Below.refl _ _, rfl⟩
      unfold Goes
      go_simp
    · have e3 : ρ (.tmp 3) = .pointer (some ⟨g + 1, 0, none⟩) := ho 3 (by simp)
      refine Goes.pure (.pointer (some ⟨g + 1, 0, none⟩)) ?_ ⟨hC, Below.refl _ _, rfl⟩
      unfold Goes
      go_simp
    · have e7 : ρ (.tmp 7) = .pointer (some ⟨g + 1, 0, none⟩) := hd (2, 7) (by simp)
      obtain ⟨⟨c0, c1, c2⟩, d0, d1, d2⟩ := hread u hC
      refine Goes.pure (.bool t) ?_ ⟨hC, Below.refl _ _, rfl⟩
      unfold Goes
      go_simp
    · have e6 : ρ (.tmp 6) = .bool s := hd (1, 6) (by simp)
      have e8 : ρ (.tmp 8) = .bool t := hd (3, 8) (by simp)
      refine Goes.pure (.bool (s != t)) ?_ ⟨hC, Below.refl _ _, rfl⟩
      unfold Goes
      go_simp
      cases s <;> cases t <;> rfl
    · have e2 : ρ (.tmp 2) = .pointer (some ⟨g, 0, none⟩) := ho 2 (by simp)
      refine Goes.pure (.pointer (some ⟨g, 1, none⟩)) ?_ ⟨hC, Below.refl _ _, rfl⟩
      unfold Goes
      go_simp
    · have e10 : ρ (.tmp 10) = .pointer (some ⟨g, 1, none⟩) := hd (5, 10) (by simp)
      obtain ⟨⟨c0, c1, c2⟩, d0, d1, d2⟩ := hread u hC
      refine Goes.pure (.slice no nn nc) ?_ ⟨hC, Below.refl _ _, rfl⟩
      unfold Goes
      go_simp
    · have e3 : ρ (.tmp 3) = .pointer (some ⟨g + 1, 0, none⟩) := ho 3 (by simp)
      refine Goes.pure (.pointer (some ⟨g + 1, 1, none⟩)) ?_ ⟨hC, Below.refl _ _, rfl⟩
      unfold Goes
      go_simp
    · have e12 : ρ (.tmp 12) = .pointer (some ⟨g + 1, 1, none⟩) := hd (7, 12) (by simp)
      obtain ⟨⟨c0, c1, c2⟩, d0, d1, d2⟩ := hread u hC
      refine Goes.pure (.slice mo mn mc) ?_ ⟨hC, Below.refl _ _, rfl⟩
      unfold Goes
      go_simp
    · have e11 : ρ (.tmp 11) = .slice no nn nc := hd (6, 11) (by simp)
      have e13 : ρ (.tmp 13) = .slice mo mn mc := hd (8, 13) (by simp)
      refine Goes.call 87 #[.slice no nn nc, .slice mo mn mc] (by go_simp) ?_
      refine Calls.mono (rmul_k (hn.later hC) (hm.later hC) K L l1 l3 (by omega) (by omega)) ?_
      rintro e u' ⟨ro, rn, rc, rfl, sr, lr, lb⟩
      exact ⟨_, rfl, hC.trans (lb.mono hC.size), lb, ⟨ro, rn, rc, rfl, sr, lr⟩⟩
    · have e2 : ρ (.tmp 2) = .pointer (some ⟨g, 0, none⟩) := ho 2 (by simp)
      refine Goes.pure (.pointer (some ⟨g, 2, none⟩)) ?_ ⟨hC, Below.refl _ _, rfl⟩
      unfold Goes
      go_simp
    · have e15 : ρ (.tmp 15) = .pointer (some ⟨g, 2, none⟩) := hd (10, 15) (by simp)
      obtain ⟨⟨c0, c1, c2⟩, d0, d1, d2⟩ := hread u hC
      refine Goes.pure (.slice eo en ec) ?_ ⟨hC, Below.refl _ _, rfl⟩
      unfold Goes
      go_simp
    · have e3 : ρ (.tmp 3) = .pointer (some ⟨g + 1, 0, none⟩) := ho 3 (by simp)
      refine Goes.pure (.pointer (some ⟨g + 1, 2, none⟩)) ?_ ⟨hC, Below.refl _ _, rfl⟩
      unfold Goes
      go_simp
    · have e17 : ρ (.tmp 17) = .pointer (some ⟨g + 1, 2, none⟩) := hd (12, 17) (by simp)
      obtain ⟨⟨c0, c1, c2⟩, d0, d1, d2⟩ := hread u hC
      refine Goes.pure (.slice fo fn fc) ?_ ⟨hC, Below.refl _ _, rfl⟩
      unfold Goes
      go_simp
    · have e16 : ρ (.tmp 16) = .slice eo en ec := hd (11, 16) (by simp)
      have e18 : ρ (.tmp 18) = .slice fo fn fc := hd (13, 18) (by simp)
      refine Goes.call 87 #[.slice eo en ec, .slice fo fn fc] (by go_simp) ?_
      refine Calls.mono (rmul_k (hd'.later hC) (hf'.later hC) K L l2 l4 (by omega) (by omega)) ?_
      rintro e u' ⟨ro, rn, rc, rfl, sr, lr, lb⟩
      exact ⟨_, rfl, hC.trans (lb.mono hC.size), lb, ⟨ro, rn, rc, rfl, sr, lr⟩⟩
    · have e9 : ρ (.tmp 9) = .bool (s != t) := hd (4, 9) (by simp)
      obtain ⟨o14, n14, c14, e14, k14, j14⟩ : VN (val xs * val us) (K + L) (ρ (.tmp 14)) u := hd (9, 14) (by simp)
      obtain ⟨o19, n19, c19, e19, k19, j19⟩ : VN (val ys * val vs) (K + L) (ρ (.tmp 19)) u := hd (14, 19) (by simp)
      refine Goes.pure (.agg #[.bool (s != t), .slice o14 n14 c14, .slice o19 n19 c19]) ?_ ⟨hC, Below.refl _ _, ⟨s != t, o14, n14, c14, o19, n19, c19, rfl, ⟨_, _, k14, k19, by rw [val_toL, val_toL, ← rq_mul, hq, hp]⟩, j14, j19⟩⟩
      unfold Goes
      go_simp
    · obtain ⟨s20, no20, nn20, nc20, eo20, en20, ec20, e20, k20⟩ : VR (q * p) (K + L) (ρ (.tmp 20)) u := hd (15, 20) (by simp)
      refine Goes.call 58 #[.agg #[.bool s20, .slice no20 nn20 nc20, .slice eo20 en20 ec20]] (by go_simp) ?_
      refine Calls.mono (read3_any u s20 no20 nn20 nc20 eo20 en20 ec20 (K + L) (q * p) k20 (by omega) (by omega)) ?_
      rintro e u' ⟨s1, no1, nn1, nc1, eo1, en1, ec1, rfl, cq, lb⟩
      exact ⟨_, rfl, hC.trans (lb.mono hC.size), lb, ⟨s1, no1, nn1, nc1, eo1, en1, ec1, rfl, cq⟩⟩
  · intro vs u hC hv
    obtain ⟨s1, no1, nn1, nc1, eo1, en1, ec1, e21, cq⟩ : VC (q * p) (K + L) (vs 16) u := hv 16 (by omega)
    have rs1 := rs.later hC
    obtain ⟨r0, r1, r2⟩ := rs1.cells
    have f0 := rs1.free 0
    have f1 := rs1.free 1
    have f2 := rs1.free 2
    simp only [puts, List.take, List.drop, Act.put, List.setIfInBounds_toArray, List.set_cons_succ, List.set_cons_zero, Nat.reduceAdd, e21]
    go_wp2
    exact ret_store rfl rfl rfl rs1 (by rw [HG.out]; omega) cq (b0.trans (hC.mono b0.size))
end Go.Proofs.YtbobhhnhlgdkiaaGreat

/- penumbraref03: Add, Sub, Cmp. -/
namespace Go.Proofs.YtbobhhnhlgdkiaaGreat
open Go.RowKit M Kahn
set_option maxRecDepth 100000

set_option maxHeartbeats 4000000 in
theorem add3_any (w : World) (s : Bool) (no : Option Addr) (nn nc : Nat) (eo : Option Addr) (en ec : Nat) (t : Bool) (mo : Option Addr) (mn mc : Nat) (fo : Option Addr) (fn fc K L : Nat) (q p : Rat)
    (h : Qn w s no nn nc eo en ec q K) (h' : Qn w t mo mn mc fo fn fc p L) (hK1 : 1 ≤ K) (hL1 : 1 ≤ L) (hK : K + L + 1 ≤ 17179869184) :
    Calls Tryz.prog 70 #[.agg #[.bool s, .slice no nn nc, .slice eo en ec], .agg #[.bool t, .slice mo mn mc, .slice fo fn fc]] w (Gq w (K + L + 1) (q + p)) := by
  obtain ⟨w0, hw0, bx, by_, rs, b0⟩ := box3 w (.bool s) (.slice no nn nc) (.slice eo en ec) (.bool t) (.slice mo mn mc) (.slice fo fn fc)
  have h0 := h.later b0
  have h0' := h'.later b0
  clear h h'
  obtain ⟨xs, ys, hn, hd, hq⟩ := h0.there
  obtain ⟨us, vs, hm, hf, hp⟩ := h0'.there
  have l1 := h0.ln
  have l2 := h0.ld
  have l3 := h0'.ln
  have l4 := h0'.ld
  obtain ⟨X, hX⟩ : ∃ X, X = val xs := ⟨_, rfl⟩
  obtain ⟨Y, hY⟩ : ∃ Y, Y = val ys := ⟨_, rfl⟩
  obtain ⟨U, hU⟩ : ∃ U, U = val us := ⟨_, rfl⟩
  obtain ⟨V, hV⟩ : ∃ V, V = val vs := ⟨_, rfl⟩
  rw [← hX, ← hY] at hq
  rw [← hU, ← hV] at hp
  have HX : Hid (val xs = X) := hX.symm
  have HY : Hid (val ys = Y) := hY.symm
  have HU : Hid (val us = U) := hU.symm
  have HV : Hid (val vs = V) := hV.symm
  have HQ : Hid (rq s X Y = q) := hq
  have HP : Hid (rq t U V = p) := hp
  clear hX hY hU hV hq hp
  obtain ⟨g, hg⟩ : ∃ g, g = w.heap.size := ⟨_, rfl⟩
  have HG : Hid (w.heap.size = g) := hg.symm
  rw [← hg] at bx by_ rs
  obtain ⟨c0, c1, c2⟩ := bx.cells
  obtain ⟨d0, d1, d2⟩ := by_.cells
  go_enter Tryz.func70, Tryz.ntmps70
  go_wp2_with fail
  rw [← hw0, ← hg]
  clear hw0 hg
  refine (sign3_any w0 s no nn nc eo en ec K q h0 (by omega)).mono ?_
  rintro e w1 ⟨rfl, b1⟩
  replace h0 := h0.later b1
  replace h0' := h0'.later b1
  replace hn := hn.later b1
  replace hd := hd.later b1
  replace hm := hm.later b1
  replace hf := hf.later b1
  replace bx := bx.later b1
  replace by_ := by_.later b1
  replace rs := rs.later b1
  have bb1 := b0.trans (b1.mono b0.size)
  clear c0 c1 c2 d0 d1 d2 b0 b1
  obtain ⟨c0, c1, c2⟩ := bx.cells
  obtain ⟨d0, d1, d2⟩ := by_.cells
  by_cases hq0 : qsgn q = 0
  · have HZ : Hid (q + p = p) := by show q + p = p; rw [qsgn_zero.1 hq0, Rat.zero_add]
    rw [hq0]
    clear hq0
    go_wp2_with fail
    refine (read3_any w1 t mo mn mc fo fn fc L p h0' hL1 (by omega)).mono ?_
    rintro e w2 ⟨s1, no1, nn1, nc1, eo1, en1, ec1, rfl, cq, lb⟩
    have rs1 := rs.later lb
    obtain ⟨r0, r1, r2⟩ := rs1.cells
    have f0 := rs1.free 0
    have f1 := rs1.free 1
    have f2 := rs1.free 2
    go_wp2
    rw [HZ.out]
    exact ret_store rfl rfl rfl rs1 (by rw [HG.out]; omega) (cq.mono (by omega)) (bb1.trans (lb.mono bb1.size))
  · have hqb : (qsgn q == 0) = false := by rw [beq_eq_false_iff_ne]; exact hq0
    have Y0 : Hid (Y ≠ 0) := by
      show Y ≠ 0
      intro hy
      apply hq0
      rw [← HQ.out, hy, rq_den0]; rfl
    generalize qsgn q = z at hqb ⊢
    clear hq0
    go_wp2_with fail
    refine (sign3_any w1 t mo mn mc fo fn fc L p h0' (by omega)).mono ?_
    rintro e w2 ⟨rfl, b2⟩
    replace h0 := h0.later b2
    replace hn := hn.later b2
    replace hd := hd.later b2
    replace hm := hm.later b2
    replace hf := hf.later b2
    replace bx := bx.later b2
    replace by_ := by_.later b2
    replace rs := rs.later b2
    have bb2 := bb1.trans (b2.mono bb1.size)
    clear c0 c1 c2 d0 d1 d2 bb1 b2 h0' hqb
    obtain ⟨c0, c1, c2⟩ := bx.cells
    obtain ⟨d0, d1, d2⟩ := by_.cells
    by_cases hp0 : qsgn p = 0
    · have HZ : Hid (q + p = q) := by show q + p = q; rw [qsgn_zero.1 hp0, Rat.add_zero]
      rw [hp0]
      clear hp0
      go_wp2_with fail
      refine (read3_any w2 s no nn nc eo en ec K q h0 hK1 (by omega)).mono ?_
      rintro e w3 ⟨s1, no1, nn1, nc1, eo1, en1, ec1, rfl, cq, lb⟩
      have rs1 := rs.later lb
      obtain ⟨r0, r1, r2⟩ := rs1.cells
      have f0 := rs1.free 0
      have f1 := rs1.free 1
      have f2 := rs1.free 2
      go_wp2
      rw [HZ.out]
      exact ret_store rfl rfl rfl rs1 (by rw [HG.out]; omega) (cq.mono (by omega)) (bb2.trans (lb.mono bb2.size))
    · have hpb : (qsgn p == 0) = false := by rw [beq_eq_false_iff_ne]; exact hp0
      have V0 : Hid (V ≠ 0) := by
        show V ≠ 0
        intro hy
        apply hp0
        rw [← HP.out, hy, rq_den0]; rfl
      generalize qsgn p = z2 at hpb ⊢
      clear hp0 h0
      go_wp2_with fail
      refine (rmul_k hn hf K L l1 l4 (by omega) (by omega)).mono ?_
      rintro e w3 ⟨xo, xn, xc, rfl, sx, lx, lb⟩
      rw [HX.out, HV.out] at sx
      replace hd := hd.later lb
      replace hm := hm.later lb
      replace hf := hf.later lb
      replace bx := bx.later lb
      replace by_ := by_.later lb
      replace rs := rs.later lb
      have b3 := bb2.trans (lb.mono bb2.size)
      clear c0 c1 c2 d0 d1 d2 bb2 lb hn hpb
      obtain ⟨c0, c1, c2⟩ := bx.cells
      obtain ⟨d0, d1, d2⟩ := by_.cells
      go_wp2_with fail
      refine (rmul_k hm hd L K l3 l2 (by omega) (by omega)).mono ?_
      rintro e w4 ⟨yo, yn, yc, rfl, sy, ly, lb⟩
      rw [HU.out, HY.out] at sy
      replace hd := hd.later lb
      replace hf := hf.later lb
      replace sx := sx.later lb
      replace bx := bx.later lb
      replace by_ := by_.later lb
      replace rs := rs.later lb
      have b4 := b3.trans (lb.mono b3.size)
      clear c0 c1 c2 d0 d1 d2 b3 lb hm
      obtain ⟨c0, c1, c2⟩ := bx.cells
      obtain ⟨d0, d1, d2⟩ := by_.cells
      go_wp2_with fail
      refine (rmul_k hd hf K L l2 l4 (by omega) (by omega)).mono ?_
      rintro e w5 ⟨zo, zn, zc, rfl, sz, lz, lb⟩
      rw [HY.out, HV.out] at sz
      replace sx := sx.later lb
      replace sy := sy.later lb
      replace bx := bx.later lb
      replace by_ := by_.later lb
      replace rs := rs.later lb
      have b5 := b4.trans (lb.mono b4.size)
      clear c0 c1 c2 d0 d1 d2 b4 lb hd hf
      obtain ⟨c0, c1, c2⟩ := bx.cells
      obtain ⟨d0, d1, d2⟩ := by_.cells
      by_cases hst : s = t
      · subst hst
        have hb : (s == s) = true := by simp
        have HE : Hid (rq s (X * V + U * Y) (Y * V) = q + p) := by show rq s (X * V + U * Y) (Y * V) = q + p; rw [← HQ.out, ← HP.out]; exact (rq_add_same Y0.out V0.out).symm
        go_wp2
        have HLst : Lst [VV (.pointer (some ⟨g, 0, none⟩)), VV (.bool s), VV (.slice xo xn xc), VV (.slice yo yn yc), VN (X * V + U * Y) (K + L + 1), VV (.slice zo zn zc), VR (q + p) (K + L + 1), VC (q + p) (K + L + 1)] := ⟨VV.lasts _, VV.lasts _, VV.lasts _, VV.lasts _, VN.lasts _ _, VV.lasts _, VR.lasts _ _, VC.lasts _ _, trivial⟩
        refine wp_region_kahn 8 78 [([], [2]), ([(0, 42)], []), ([], [5]), ([], [6]), ([(2, 44), (3, 45)], []), ([], [7]), ([(1, 43), (4, 46), (5, 47)], []), ([(6, 48)], [])]
          (fun u => Below w5.heap.size w5 u) (fun u u' => Below u.heap.size u u')
          (Sp [VV (.pointer (some ⟨g, 0, none⟩)), VV (.bool s), VV (.slice xo xn xc), VV (.slice yo yn yc), VN (X * V + U * Y) (K + L + 1), VV (.slice zo zn zc), VR (q + p) (K + L + 1), VC (q + p) (K + L + 1)])
          (by kernel_rfl) rfl (by kernel_rfl) (Below.refl _ _).drew (fun k v u u' _ hg hs => Sp.lasts HLst k v u u' hg hs) ?_ ?_
        · refine ⟨.inl ⟨by simp, fun ρ u hC hc hf hd ho => ?_⟩, .inl ⟨by simp, fun ρ u hC hc hf hd ho => ?_⟩, .inl ⟨by simp, fun ρ u hC hc hf hd ho => ?_⟩, .inl ⟨by simp, fun ρ u hC hc hf hd ho => ?_⟩, .inl ⟨by simp, fun ρ u hC hc hf hd ho => ?_⟩, .inl ⟨by simp, fun ρ u hC hc hf hd ho => ?_⟩, .inl ⟨by simp, fun ρ u hC hc hf hd ho => ?_⟩, .inl ⟨by simp, fun ρ u hC hc hf hd ho => ?_⟩, trivial⟩
          · have e2 : ρ (.tmp 2) = .pointer (some ⟨g, 0, none⟩) := ho 2 (by simp)
            refine Goes.pure (.pointer (some ⟨g, 0, none⟩)) ?_ ⟨hC, Below.refl _ _, rfl⟩
            unfold Goes
            go_simp
          · have e42 : ρ (.tmp 42) = .pointer (some ⟨g, 0, none⟩) := hd (0, 42) (by simp)
            obtain ⟨c0, c1, c2⟩ := (bx.later hC).cells
            refine Goes.pure (.bool s) ?_ ⟨hC, Below.refl _ _, rfl⟩
            unfold Goes
            go_simp
          · have e5 : ρ (.tmp 5) = .slice xo xn xc := ho 5 (by simp)
            refine Goes.pure (.slice xo xn xc) ?_ ⟨hC, Below.refl _ _, rfl⟩
            unfold Goes
            go_simp
          · have e6 : ρ (.tmp 6) = .slice yo yn yc := ho 6 (by simp)
            refine Goes.pure (.slice yo yn yc) ?_ ⟨hC, Below.refl _ _, rfl⟩
            unfold Goes
            go_simp
          · have e44 : ρ (.tmp 44) = .slice xo xn xc := hd (2, 44) (by simp)
            have e45 : ρ (.tmp 45) = .slice yo yn yc := hd (3, 45) (by simp)
            refine Goes.call 88 #[.slice xo xn xc, .slice yo yn yc] (by go_simp) ?_
            refine Calls.mono (radd_k (sx.later hC) (sy.later hC) (K + L) lx (by omega) (by omega)) ?_
            rintro e u' ⟨ro, rn, rc, rfl, sr, lr, lb⟩
            exact ⟨_, rfl, hC.trans (lb.mono hC.size), lb, ⟨ro, rn, rc, rfl, by rw [val_toL, val_toL] at sr; exact sr, lr⟩⟩
          · have e7 : ρ (.tmp 7) = .slice zo zn zc := ho 7 (by simp)
            refine Goes.pure (.slice zo zn zc) ?_ ⟨hC, Below.refl _ _, rfl⟩
            unfold Goes
            go_simp
          · have e43 : ρ (.tmp 43) = .bool s := hd (1, 43) (by simp)
            obtain ⟨o46, n46, c46, e46, k46, j46⟩ : VN (X * V + U * Y) (K + L + 1) (ρ (.tmp 46)) u := hd (4, 46) (by simp)
            have e47 : ρ (.tmp 47) = .slice zo zn zc := hd (5, 47) (by simp)
            refine Goes.pure (.agg #[.bool s, .slice o46 n46 c46, .slice zo zn zc]) ?_ ⟨hC, Below.refl _ _, ⟨s, o46, n46, c46, zo, zn, zc, rfl, ⟨_, _, k46, sz.later hC, by rw [val_toL, val_toL]; exact HE.out⟩, j46, by omega⟩⟩
            unfold Goes
            go_simp
          · obtain ⟨s48, no48, nn48, nc48, eo48, en48, ec48, e48, k48⟩ : VR (q + p) (K + L + 1) (ρ (.tmp 48)) u := hd (6, 48) (by simp)
            refine Goes.call 58 #[.agg #[.bool s48, .slice no48 nn48 nc48, .slice eo48 en48 ec48]] (by go_simp) ?_
            refine Calls.mono (read3_any u s48 no48 nn48 nc48 eo48 en48 ec48 (K + L + 1) (q + p) k48 (by omega) (by omega)) ?_
            rintro e u' ⟨s1, no1, nn1, nc1, eo1, en1, ec1, rfl, cq, lb⟩
            exact ⟨_, rfl, hC.trans (lb.mono hC.size), lb, ⟨s1, no1, nn1, nc1, eo1, en1, ec1, rfl, cq⟩⟩
        · intro vs u hC hv
          obtain ⟨s1, no1, nn1, nc1, eo1, en1, ec1, e49, cq⟩ : VC (q + p) (K + L + 1) (vs 7) u := hv 7 (by omega)
          have rs1 := rs.later hC
          obtain ⟨r0, r1, r2⟩ := rs1.cells
          have f0 := rs1.free 0
          have f1 := rs1.free 1
          have f2 := rs1.free 2
          simp only [puts, List.take, List.drop, Act.put, List.setIfInBounds_toArray, List.set_cons_succ, List.set_cons_zero, Nat.reduceAdd, e49]
          go_wp2
          exact ret_store rfl rfl rfl rs1 (by rw [HG.out]; omega) cq (b5.trans (hC.mono b5.size))
      · have hb : (s == t) = false := by simp [hst]
        go_wp2_with fail
        refine (rcmp_k sx sy (by omega) (by omega)).mono ?_
        rintro e w6 ⟨rfl, lb⟩
        rw [val_toL, val_toL]
        replace sx := sx.later lb
        replace sy := sy.later lb
        replace sz := sz.later lb
        replace bx := bx.later lb
        replace by_ := by_.later lb
        replace rs := rs.later lb
        have b6 := b5.trans (lb.mono b5.size)
        clear c0 c1 c2 d0 d1 d2 b5 lb
        have b5 := b6
        clear b6
        obtain ⟨c0, c1, c2⟩ := bx.cells
        obtain ⟨d0, d1, d2⟩ := by_.cells
        by_cases hge : U * Y ≤ X * V
        · have HE : Hid (rq s (X * V - U * Y) (Y * V) = q + p) := by show rq s (X * V - U * Y) (Y * V) = q + p; rw [← HQ.out, ← HP.out]; exact (rq_add_ge hst Y0.out V0.out hge).symm
          have HGE : Hid (U * Y ≤ X * V) := hge
          have hcm : 0 ≤ cmpN (X * V) (U * Y) := by unfold cmpN; split <;> (try split) <;> omega
          generalize cmpN (X * V) (U * Y) = cm at hcm ⊢
          clear hge
          go_wp2_with fail
          refine (rsub_k sx sy (K + L) (by omega) (by omega) (by omega) (by rw [val_toL, val_toL]; exact HGE.out)).mono ?_
          rintro e w6 ⟨do_, dn, dc, rfl, sdd, ld, lb⟩
          rw [val_toL, val_toL] at sdd
          replace bx := bx.later lb
          replace by_ := by_.later lb
          replace rs := rs.later lb
          replace sz := sz.later lb
          have b6 := b5.trans (lb.mono b5.size)
          clear c0 c1 c2 d0 d1 d2 lb sx sy b5
          obtain ⟨c0, c1, c2⟩ := bx.cells
          obtain ⟨d0, d1, d2⟩ := by_.cells
          go_wp2_with fail
          refine (read3_any w6 s do_ dn dc zo zn zc (K + L + 1) (q + p) ⟨⟨_, _, sdd, sz, by rw [val_toL, val_toL]; exact HE.out⟩, by omega, by omega⟩ (by omega) (by omega)).mono ?_
          rintro e w7 ⟨s1, no1, nn1, nc1, eo1, en1, ec1, rfl, cq, lb⟩
          have rs1 := rs.later lb
          obtain ⟨r0, r1, r2⟩ := rs1.cells
          have f0 := rs1.free 0
          have f1 := rs1.free 1
          have f2 := rs1.free 2
          go_wp2
          exact ret_store rfl rfl rfl rs1 (by rw [HG.out]; omega) cq (b6.trans (lb.mono b6.size))
        · have HE : Hid (rq t (U * Y - X * V) (Y * V) = q + p) := by show rq t (U * Y - X * V) (Y * V) = q + p; rw [← HQ.out, ← HP.out]; exact (rq_add_lt hst Y0.out V0.out (by omega)).symm
          have HGE : Hid (X * V ≤ U * Y) := by show X * V ≤ U * Y; omega
          have hcm : cmpN (X * V) (U * Y) < 0 := by rw [cmpN_lt (by omega)]; omega
          generalize cmpN (X * V) (U * Y) = cm at hcm ⊢
          clear hge
          go_wp2_with fail
          refine (rsub_k sy sx (K + L) (by omega) (by omega) (by omega) (by rw [val_toL, val_toL]; exact HGE.out)).mono ?_
          rintro e w6 ⟨do_, dn, dc, rfl, sdd, ld, lb⟩
          rw [val_toL, val_toL] at sdd
          replace bx := bx.later lb
          replace by_ := by_.later lb
          replace rs := rs.later lb
          replace sz := sz.later lb
          have b6 := b5.trans (lb.mono b5.size)
          clear c0 c1 c2 d0 d1 d2 lb sx sy b5
          obtain ⟨c0, c1, c2⟩ := bx.cells
          obtain ⟨d0, d1, d2⟩ := by_.cells
          go_wp2_with fail
          refine (read3_any w6 t do_ dn dc zo zn zc (K + L + 1) (q + p) ⟨⟨_, _, sdd, sz, by rw [val_toL, val_toL]; exact HE.out⟩, by omega, by omega⟩ (by omega) (by omega)).mono ?_
          rintro e w7 ⟨s1, no1, nn1, nc1, eo1, en1, ec1, rfl, cq, lb⟩
          have rs1 := rs.later lb
          obtain ⟨r0, r1, r2⟩ := rs1.cells
          have f0 := rs1.free 0
          have f1 := rs1.free 1
          have f2 := rs1.free 2
          go_wp2
          exact ret_store rfl rfl rfl rs1 (by rw [HG.out]; omega) cq (b6.trans (lb.mono b6.size))
end Go.Proofs.YtbobhhnhlgdkiaaGreat

/- penumbraref03: Sub, Cmp, Div. -/
namespace Go.Proofs.YtbobhhnhlgdkiaaGreat
open Go.RowKit M Kahn
set_option maxRecDepth 100000


set_option maxHeartbeats 4000000 in
theorem sub3_any (w : World) (s : Bool) (no : Option Addr) (nn nc : Nat) (eo : Option Addr) (en ec : Nat) (t : Bool) (mo : Option Addr) (mn mc : Nat) (fo : Option Addr) (fn fc K L : Nat) (q p : Rat)
    (h : Qn w s no nn nc eo en ec q K) (h' : Qn w t mo mn mc fo fn fc p L) (hK1 : 1 ≤ K) (hL1 : 1 ≤ L) (hK : K + L + 1 ≤ 17179869184) :
    Calls Tryz.prog 56 #[.agg #[.bool s, .slice no nn nc, .slice eo en ec], .agg #[.bool t, .slice mo mn mc, .slice fo fn fc]] w (Gq w (K + L + 1) (q - p)) := by
  obtain ⟨w0, hw0, bx, by_, rs, b0⟩ := box3 w (.bool s) (.slice no nn nc) (.slice eo en ec) (.bool t) (.slice mo mn mc) (.slice fo fn fc)
  have h0 := h.later b0
  have h0' := h'.later b0
  clear h h'
  obtain ⟨g, hg⟩ : ∃ g, g = w.heap.size := ⟨_, rfl⟩
  have HG : Hid (w.heap.size = g) := hg.symm
  rw [← hg] at bx by_ rs
  go_enter Tryz.func56, Tryz.ntmps56
  go_wp2
  rw [← hw0, ← hg]
  clear hw0 hg
  have hread := fun u (hu : Below w0.heap.size w0 u) => And.intro (bx.later hu).cells (by_.later hu).cells
  have HLst : Lst [VV (.agg #[.bool s, .slice no nn nc, .slice eo en ec]), VV (.agg #[.bool t, .slice mo mn mc, .slice fo fn fc]), VC (-p) (L), VC (q - p) (K + L + 1)] := ⟨VV.lasts _, VV.lasts _, VC.lasts _ _, VC.lasts _ _, trivial⟩
  refine wp_region_kahn 4 9 [([], [2]), ([], [3]), ([(1, 6)], []), ([(0, 5), (2, 7)], [])]
    (fun u => Below w0.heap.size w0 u) (fun u u' => Below u.heap.size u u')
    (Sp [VV (.agg #[.bool s, .slice no nn nc, .slice eo en ec]), VV (.agg #[.bool t, .slice mo mn mc, .slice fo fn fc]), VC (-p) (L), VC (q - p) (K + L + 1)])
    (by kernel_rfl) rfl (by kernel_rfl) (Below.refl _ _).drew (fun k v u u' _ hg hs => Sp.lasts HLst k v u u' hg hs) ?_ ?_
  · refine ⟨.inl ⟨by simp, fun ρ u hC hc hf hd ho => ?_⟩, .inl ⟨by simp, fun ρ u hC hc hf hd ho => ?_⟩, .inl ⟨by simp, fun ρ u hC hc hf hd ho => ?_⟩, .inl ⟨by simp, fun ρ u hC hc hf hd ho => ?_⟩, trivial⟩
    · have e2 : ρ (.tmp 2) = .pointer (some ⟨g, 0, none⟩) := ho 2 (by simp)
      obtain ⟨⟨c0, c1, c2⟩, d0, d1, d2⟩ := hread u hC
      refine Goes.pure (.agg #[.bool s, .slice no nn nc, .slice eo en ec]) ?_ ⟨hC, Below.refl _ _, rfl⟩
      unfold Goes
      go_simp
    · have e3 : ρ (.tmp 3) = .pointer (some ⟨g + 1, 0, none⟩) := ho 3 (by simp)
      obtain ⟨⟨c0, c1, c2⟩, d0, d1, d2⟩ := hread u hC
      refine Goes.pure (.agg #[.bool t, .slice mo mn mc, .slice fo fn fc]) ?_ ⟨hC, Below.refl _ _, rfl⟩
      unfold Goes
      go_simp
    · have e6 : ρ (.tmp 6) = .agg #[.bool t, .slice mo mn mc, .slice fo fn fc] := hd (1, 6) (by simp)
      refine Goes.call 80 #[.agg #[.bool t, .slice mo mn mc, .slice fo fn fc]] (by go_simp) ?_
      refine Calls.mono (neg3_any u t mo mn mc fo fn fc L p (h0'.later hC) hL1 (by omega)) ?_
      rintro e u' ⟨s1, no1, nn1, nc1, eo1, en1, ec1, rfl, cq, lb⟩
      exact ⟨_, rfl, hC.trans (lb.mono hC.size), lb, ⟨s1, no1, nn1, nc1, eo1, en1, ec1, rfl, cq⟩⟩
    · have e5 : ρ (.tmp 5) = .agg #[.bool s, .slice no nn nc, .slice eo en ec] := hd (0, 5) (by simp)
      obtain ⟨s7, no7, nn7, nc7, eo7, en7, ec7, e7, k7⟩ : VC (-p) (L) (ρ (.tmp 7)) u := hd (2, 7) (by simp)
      refine Goes.call 70 #[.agg #[.bool s, .slice no nn nc, .slice eo en ec], .agg #[.bool s7, .slice no7 nn7 nc7, .slice eo7 en7 ec7]] (by go_simp) ?_
      refine Calls.mono (add3_any u s no nn nc eo en ec s7 no7 nn7 nc7 eo7 en7 ec7 K L q (-p) (h0.later hC) k7.rd hK1 hL1 hK) ?_
      rintro e u' ⟨s1, no1, nn1, nc1, eo1, en1, ec1, rfl, cq, lb⟩
      exact ⟨_, rfl, hC.trans (lb.mono hC.size), lb, ⟨s1, no1, nn1, nc1, eo1, en1, ec1, rfl, by rw [Rat.sub_eq_add_neg]; exact cq⟩⟩
  · intro vs u hC hv
    obtain ⟨s1, no1, nn1, nc1, eo1, en1, ec1, e8, cq⟩ : VC (q - p) (K + L + 1) (vs 3) u := hv 3 (by omega)
    have rs1 := rs.later hC
    obtain ⟨r0, r1, r2⟩ := rs1.cells
    have f0 := rs1.free 0
    have f1 := rs1.free 1
    have f2 := rs1.free 2
    simp only [puts, List.take, List.drop, Act.put, List.setIfInBounds_toArray, List.set_cons_succ, List.set_cons_zero, Nat.reduceAdd, e8]
    go_wp2
    exact ret_store rfl rfl rfl rs1 (by rw [HG.out]; omega) cq (b0.trans (hC.mono b0.size))

set_option maxHeartbeats 1000000 in
theorem cmp3_any (w : World) (s : Bool) (no : Option Addr) (nn nc : Nat) (eo : Option Addr) (en ec : Nat) (t : Bool) (mo : Option Addr) (mn mc : Nat) (fo : Option Addr) (fn fc K L : Nat) (q p : Rat)
    (h : Qn w s no nn nc eo en ec q K) (h' : Qn w t mo mn mc fo fn fc p L) (hK1 : 1 ≤ K) (hL1 : 1 ≤ L) (hK : K + L + 1 ≤ 17179869184) :
    Calls Tryz.prog 57 #[.agg #[.bool s, .slice no nn nc, .slice eo en ec], .agg #[.bool t, .slice mo mn mc, .slice fo fn fc]] w (Gs3 w (q - p)) := by
  obtain ⟨w0, hw0, bx, by_, b0⟩ := box2 w (.bool s) (.slice no nn nc) (.slice eo en ec) (.bool t) (.slice mo mn mc) (.slice fo fn fc)
  have h0 := h.later b0
  have h0' := h'.later b0
  clear h h'
  obtain ⟨c0, c1, c2⟩ := bx.cells
  obtain ⟨d0, d1, d2⟩ := by_.cells
  go_enter Tryz.func57, Tryz.ntmps57
  go_wp2_with fail
  rw [← hw0]
  clear hw0
  refine (sub3_any w0 s no nn nc eo en ec t mo mn mc fo fn fc K L q p h0 h0' hK1 hL1 hK).mono ?_
  rintro e w1 ⟨s1, no1, nn1, nc1, eo1, en1, ec1, rfl, cq, b1⟩
  go_wp2_with fail
  refine (sign3_any w1 s1 no1 nn1 nc1 eo1 en1 ec1 _ _ cq.rd hK).mono ?_
  rintro e w2 ⟨rfl, b2⟩
  have bb := (b0.trans (b1.mono b0.size)).trans (b2.mono (by have := b0.size; have := b1.size; omega))
  generalize hz : qsgn (q - p) = z
  have HZ : Hid (qsgn (q - p) = z) := hz
  clear hz
  go_wp2
  go_ret
  exact ⟨ret1 HZ.out.symm, bb⟩

/-- What a call leaves that hands back a number and whether there is one. -/
def Gqb (w : World) (K : Nat) (q : Rat) (b : Bool) (e : Ending) (w' : World) : Prop :=
  ∃ s no nn nc eo en ec, e = .returned (.tuple #[.agg #[.bool s, .slice no nn nc, .slice eo en ec], .bool b]) ∧ Cq w' s no nn nc eo en ec q K ∧ Below w.heap.size w w'
theorem ret_store2 {fn : Func} {p t : Tmp} {act : Act} {w u : World} {g K : Nat} {q : Rat} {b s : Bool} {no : Option Addr} {nn nc : Nat} {eo : Option Addr} {en ec : Nat} (h : fn.results = #[.cell p 24, .tmp t]) (hp : act.tmps.getD p undef = .pointer (some ⟨g, 0, none⟩)) (ht : act.tmps.getD t undef = .bool b) (hd : act.defers = [])
    (hb : Rb u g (.bool false) (.slice none 0 0) (.slice none 0 0)) (hg : w.heap.size ≤ g) (hc : Cq u s no nn nc eo en ec q K) (h5 : Below w.heap.size w u) :
    bodyPost Tryz.prog fn (Gqb w K q b) .ret act (((u.setCell ⟨g, 0, none⟩ (.bool s)).setCell ⟨g, 1, none⟩ (.slice no nn nc)).setCell ⟨g, 2, none⟩ (.slice eo en ec)) := by
  have fr := Rb.putFr g u (.bool s) (.slice no nn nc) (.slice eo en ec)
  exact ret_rat2 h hp ht hd (hb.put _ _ _) ⟨s, no, nn, nc, eo, en, ec, rfl, hc.store hb fr, h5.trans (fr.below hg)⟩

set_option maxHeartbeats 1000000 in
theorem div3_any (w : World) (s : Bool) (no : Option Addr) (nn nc : Nat) (eo : Option Addr) (en ec : Nat) (t : Bool) (mo : Option Addr) (mn mc : Nat) (fo : Option Addr) (fn fc K L : Nat) (q p : Rat)
    (h : Qn w s no nn nc eo en ec q K) (h' : Qn w t mo mn mc fo fn fc p L) (hK1 : 1 ≤ K) (hL1 : 1 ≤ L) (hK : K + L + 1 ≤ 17179869184) :
    Calls Tryz.prog 79 #[.agg #[.bool s, .slice no nn nc, .slice eo en ec], .agg #[.bool t, .slice mo mn mc, .slice fo fn fc]] w (Gqb w (K + L) (q / p) (decide (p ≠ 0))) := by
  obtain ⟨w0, hw0, bx, by_, rs, b0⟩ := box3 w (.bool s) (.slice no nn nc) (.slice eo en ec) (.bool t) (.slice mo mn mc) (.slice fo fn fc)
  have h0 := h.later b0
  have h0' := h'.later b0
  clear h h'
  obtain ⟨g, hg⟩ : ∃ g, g = w.heap.size := ⟨_, rfl⟩
  have HG : Hid (w.heap.size = g) := hg.symm
  rw [← hg] at bx by_ rs
  obtain ⟨c0, c1, c2⟩ := bx.cells
  obtain ⟨d0, d1, d2⟩ := by_.cells
  go_enter Tryz.func79, Tryz.ntmps79
  go_wp2_with fail
  rw [← hw0, ← hg]
  clear hw0 hg
  refine (sign3_any w0 t mo mn mc fo fn fc L p h0' (by omega)).mono ?_
  rintro e w1 ⟨rfl, b1⟩
  replace h0 := h0.later b1
  replace h0' := h0'.later b1
  replace bx := bx.later b1
  replace by_ := by_.later b1
  replace rs := rs.later b1
  have bb1 := b0.trans (b1.mono b0.size)
  clear c0 c1 c2 d0 d1 d2 b0 b1
  obtain ⟨c0, c1, c2⟩ := bx.cells
  obtain ⟨d0, d1, d2⟩ := by_.cells
  by_cases hp0 : p = 0
  · have HZ : Hid (q / p = 0) := by show q / p = 0; rw [hp0, Rat.div_def, Rat.inv_zero, Rat.mul_zero]
    have HD : Hid (decide (p ≠ 0) = false) := by show decide (p ≠ 0) = false; simp [hp0]
    rw [qsgn_zero.2 hp0]
    clear hp0
    go_wp2_with fail
    refine (zero3_any w1).mono ?_
    rintro e w2 ⟨s1, no1, nn1, nc1, eo1, en1, ec1, rfl, cq, lb⟩
    have rs1 := rs.later lb
    obtain ⟨r0, r1, r2⟩ := rs1.cells
    have f0 := rs1.free 0
    have f1 := rs1.free 1
    have f2 := rs1.free 2
    go_wp2
    rw [HZ.out, HD.out]
    exact ret_store2 rfl rfl rfl rfl rs1 (by rw [HG.out]; omega) (cq.mono (by omega)) (bb1.trans (lb.mono bb1.size))
  · have hqb : (qsgn p == 0) = false := by rw [beq_eq_false_iff_ne]; exact fun e => hp0 (qsgn_zero.1 e)
    have HZ : Hid (q / p = q * p⁻¹) := Rat.div_def q p
    have HD : Hid (decide (p ≠ 0) = true) := by show decide (p ≠ 0) = true; simp [hp0]
    generalize qsgn p = z at hqb ⊢
    clear hp0
    go_wp2_with fail
    refine (mul3_any w1 s no nn nc eo en ec t fo fn fc mo mn mc K L q p⁻¹ h0 h0'.inv hK1 hK).mono ?_
    rintro e w2 ⟨s1, no1, nn1, nc1, eo1, en1, ec1, rfl, cq, lb⟩
    have rs1 := rs.later lb
    obtain ⟨r0, r1, r2⟩ := rs1.cells
    have f0 := rs1.free 0
    have f1 := rs1.free 1
    have f2 := rs1.free 2
    go_wp2
    rw [HZ.out, HD.out]
    exact ret_store2 rfl rfl rfl rfl rs1 (by rw [HG.out]; omega) cq (bb1.trans (lb.mono bb1.size))
end Go.Proofs.YtbobhhnhlgdkiaaGreat

/- penumbraref03: One, abs, Of, Floor, Sqrt. -/
namespace Go.Proofs.YtbobhhnhlgdkiaaGreat
open Go.RowKit M Kahn
set_option maxRecDepth 100000

theorem one3_mem (w : World) : ∃ w', w' = ((w.alloc (.cells #[.bool false, .slice (some ⟨w.heap.size + 1, 0, none⟩) 1 1, .slice (some ⟨w.heap.size + 1 + 1, 0, none⟩) 1 1] 24)).alloc (.cells #[.int .u32 1] 86)).alloc (.cells #[.int .u32 1] 86) ∧
    Rb w' w.heap.size (.bool false) (.slice (some ⟨w.heap.size + 1, 0, none⟩) 1 1) (.slice (some ⟨w.heap.size + 1 + 1, 0, none⟩) 1 1) ∧ Sl w'.heap.size w' (some ⟨w.heap.size + 1, 0, none⟩) 1 1 [1] ∧ Sl w'.heap.size w' (some ⟨w.heap.size + 1 + 1, 0, none⟩) 1 1 [1] ∧ Below w.heap.size w w' := by
  have hb : Rb (w.alloc (.cells #[.bool false, .slice (some ⟨w.heap.size + 1, 0, none⟩) 1 1, .slice (some ⟨w.heap.size + 1 + 1, 0, none⟩) 1 1] 24)) w.heap.size (.bool false) (.slice (some ⟨w.heap.size + 1, 0, none⟩) 1 1) (.slice (some ⟨w.heap.size + 1 + 1, 0, none⟩) 1 1) := ⟨heap_alloc_new _ _⟩
  have b0 : Below w.heap.size w (w.alloc (.cells #[.bool false, .slice (some ⟨w.heap.size + 1, 0, none⟩) 1 1, .slice (some ⟨w.heap.size + 1 + 1, 0, none⟩) 1 1] 24)) := (Below.refl _ _).alloc (Nat.le_refl _) _
  have hz : (w.alloc (.cells #[.bool false, .slice (some ⟨w.heap.size + 1, 0, none⟩) 1 1, .slice (some ⟨w.heap.size + 1 + 1, 0, none⟩) 1 1] 24)).heap.size = w.heap.size + 1 := by simp
  generalize w.alloc (.cells #[.bool false, .slice (some ⟨w.heap.size + 1, 0, none⟩) 1 1, .slice (some ⟨w.heap.size + 1 + 1, 0, none⟩) 1 1] 24) = w1 at *
  obtain ⟨s1, b1⟩ := lit1 w1 1 [1] #[.int .u32 1] rfl one_lim rfl
  have hz2 : (w1.alloc (.cells #[.int .u32 1] 86)).heap.size = w1.heap.size + 1 := by simp
  generalize w1.alloc (.cells #[.int .u32 1] 86) = w2 at *
  obtain ⟨s2, b2⟩ := lit1 w2 1 [1] #[.int .u32 1] rfl one_lim rfl
  refine ⟨_, rfl, (hb.later b1).later b2, ?_, ?_, (b0.trans (b1.mono b0.size)).trans (b2.mono (by have := b0.size; have := b1.size; omega))⟩
  · have := s1.later b2
    rwa [hz] at this
  · rwa [hz2, hz] at s2

set_option maxHeartbeats 400000 in
theorem one3_any (w : World) : Calls Tryz.prog 27 #[] w (Gq w 1 1) := by
  obtain ⟨w', hw, hb, hs, hs2, bl⟩ := one3_mem w
  go_enter Tryz.func27, Tryz.ntmps27
  go_wp2
  rw [← hw]
  refine ret_rat rfl rfl rfl hb ⟨_, _, _, _, _, _, _, rfl, ⟨rfl, ?_, ?_, by omega, by omega⟩, bl⟩
  · rw [show toL (1 : Rat).num.natAbs = [1] from toL_one]; exact hs
  · rw [show toL (1 : Rat).den = [1] from toL_one]; exact hs2

set_option maxHeartbeats 400000 in
theorem abs3i_any (w : World) (z : Int) (h1 : -9223372036854775808 ≤ z) (h2 : z ≤ 9223372036854775807) : Calls Tryz.prog 60 #[.int .i64 z] w (Gv w 2 (toL z.natAbs)) := by
  by_cases hz : z < 0
  · have hc := rof_k (w := w) (x := z.natAbs) (by omega)
    rw [show ((z.natAbs : Nat) : Int) = -(z + 1) + 1 from by omega] at hc
    have HC : Hid _ := hc
    clear hc
    go_enter Tryz.func60, Tryz.ntmps60
    go_wp2_with fail
    refine Calls.mono HC.out ?_
    rintro e w1 ⟨ao, n, c, rfl, s1, l1, b1⟩
    go_wp2
    go_ret
    exact ⟨ao, n, c, rfl, s1, l1, b1⟩
  · have hc := rof_k (w := w) (x := z.natAbs) (by omega)
    rw [show ((z.natAbs : Nat) : Int) = z from by omega] at hc
    have HC : Hid _ := hc
    have hz2 : 0 ≤ z := by omega
    clear hc hz
    go_enter Tryz.func60, Tryz.ntmps60
    go_wp2_with fail
    refine Calls.mono HC.out ?_
    rintro e w1 ⟨ao, n, c, rfl, s1, l1, b1⟩
    go_wp2
    go_ret
    exact ⟨ao, n, c, rfl, s1, l1, b1⟩

theorem rq_of (n d : Int) : rq (decide (n < 0) != decide (d < 0)) n.natAbs d.natAbs = (n : Rat) / (d : Rat) := by
  have h1 : ∀ z : Int, (z : Rat) = rq (decide (z < 0)) z.natAbs 1 := by
    intro z
    rw [rq_one]
    congr 1
    unfold sg
    by_cases h : z < 0
    · simp [h]; omega
    · simp [h]; omega
  rw [h1 n, h1 d, Rat.div_def, rq_inv, rq_mul, Nat.mul_one, Nat.one_mul]

set_option maxHeartbeats 1000000 in
theorem of3_any (w : World) (n d : Int) (h1 : -9223372036854775808 ≤ n) (h2 : n ≤ 9223372036854775807) (h3 : -9223372036854775808 ≤ d) (h4 : d ≤ 9223372036854775807) :
    Calls Tryz.prog 26 #[.int .i64 n, .int .i64 d] w (Gq w 2 ((n : Rat) / (d : Rat))) := by
  have HQ : Hid (rq (decide (n < 0) != decide (d < 0)) n.natAbs d.natAbs = (n : Rat) / (d : Rat)) := rq_of n d
  have C1 : Hid (∀ u, Calls Tryz.prog 60 #[.int .i64 n] u (Gv u 2 (toL n.natAbs))) := fun u => abs3i_any u n h1 h2
  have C2 : Hid (∀ u, Calls Tryz.prog 60 #[.int .i64 d] u (Gv u 2 (toL d.natAbs))) := fun u => abs3i_any u d h3 h4
  have rs0 : Rb (w.alloc (.cells #[.bool false, .slice none 0 0, .slice none 0 0] 24)) w.heap.size (.bool false) (.slice none 0 0) (.slice none 0 0) := ⟨heap_alloc_new _ _⟩
  have b0 : Below w.heap.size w (w.alloc (.cells #[.bool false, .slice none 0 0, .slice none 0 0] 24)) := (Below.refl _ _).alloc (Nat.le_refl _) _
  rcases (show (n < 0 ∧ d < 0) ∨ (n < 0 ∧ 0 ≤ d) ∨ (0 ≤ n ∧ d < 0) ∨ (0 ≤ n ∧ 0 ≤ d) from by omega) with ⟨hn, hd⟩ | ⟨hn, hd⟩ | ⟨hn, hd⟩ | ⟨hn, hd⟩
  · have dn : decide (0 ≤ n) = false := by simp; omega
    have dd : decide (0 ≤ d) = false := by simp; omega
    have en : decide (n < 0) = true := by simp; omega
    have ed : decide (d < 0) = true := by simp; omega
    have HS : Hid (rq false n.natAbs d.natAbs = (n : Rat) / (d : Rat)) := by
      have := HQ.out
      rw [en, ed] at this
      exact this
    generalize (n : Rat) / (d : Rat) = q at *
    go_enter Tryz.func26, Tryz.ntmps26
    go_wp2_with fail
    generalize w.alloc (.cells #[.bool false, .slice none 0 0, .slice none 0 0] 24) = w0 at *
    refine Calls.mono (C1.out w0) ?_
    rintro e w1 ⟨xo, xn, xc, rfl, sx, lx, b1⟩
    go_wp2_with fail
    refine Calls.mono (C2.out w1) ?_
    rintro e w2 ⟨yo, yn, yc, rfl, sy, ly, b2⟩
    have sx2 := sx.later b2
    have bb := (b0.trans (b1.mono b0.size)).trans (b2.mono (by have := b0.size; have := b1.size; omega))
    have rs2 := (rs0.later b1).later b2
    clear sx b1 b2 b0 rs0
    go_wp2_with fail
    refine (read3_any w2 false xo xn xc yo yn yc 2 q ⟨⟨_, _, sx2, sy, by rw [val_toL, val_toL]; exact HS.out⟩, lx, ly⟩ (by omega) (by omega)).mono ?_
    rintro e w3 ⟨s1, no1, nn1, nc1, eo1, en1, ec1, rfl, cq, lb⟩
    have rs1 := rs2.later lb
    obtain ⟨r0, r1, r2⟩ := rs1.cells
    have f0 := rs1.free 0
    have f1 := rs1.free 1
    have f2 := rs1.free 2
    go_wp2
    exact ret_store rfl rfl rfl rs1 (by omega) cq (bb.trans (lb.mono bb.size))
  · have dn : decide (0 ≤ n) = false := by simp; omega
    have dd : decide (0 ≤ d) = true := by simp; omega
    have en : decide (n < 0) = true := by simp; omega
    have ed : decide (d < 0) = false := by simp; omega
    have HS : Hid (rq true n.natAbs d.natAbs = (n : Rat) / (d : Rat)) := by
      have := HQ.out
      rw [en, ed] at this
      exact this
    generalize (n : Rat) / (d : Rat) = q at *
    go_enter Tryz.func26, Tryz.ntmps26
    go_wp2_with fail
    generalize w.alloc (.cells #[.bool false, .slice none 0 0, .slice none 0 0] 24) = w0 at *
    refine Calls.mono (C1.out w0) ?_
    rintro e w1 ⟨xo, xn, xc, rfl, sx, lx, b1⟩
    go_wp2_with fail
    refine Calls.mono (C2.out w1) ?_
    rintro e w2 ⟨yo, yn, yc, rfl, sy, ly, b2⟩
    have sx2 := sx.later b2
    have bb := (b0.trans (b1.mono b0.size)).trans (b2.mono (by have := b0.size; have := b1.size; omega))
    have rs2 := (rs0.later b1).later b2
    clear sx b1 b2 b0 rs0
    go_wp2_with fail
    refine (read3_any w2 true xo xn xc yo yn yc 2 q ⟨⟨_, _, sx2, sy, by rw [val_toL, val_toL]; exact HS.out⟩, lx, ly⟩ (by omega) (by omega)).mono ?_
    rintro e w3 ⟨s1, no1, nn1, nc1, eo1, en1, ec1, rfl, cq, lb⟩
    have rs1 := rs2.later lb
    obtain ⟨r0, r1, r2⟩ := rs1.cells
    have f0 := rs1.free 0
    have f1 := rs1.free 1
    have f2 := rs1.free 2
    go_wp2
    exact ret_store rfl rfl rfl rs1 (by omega) cq (bb.trans (lb.mono bb.size))
  · have dn : decide (0 ≤ n) = true := by simp; omega
    have dd : decide (0 ≤ d) = false := by simp; omega
    have en : decide (n < 0) = false := by simp; omega
    have ed : decide (d < 0) = true := by simp; omega
    have HS : Hid (rq true n.natAbs d.natAbs = (n : Rat) / (d : Rat)) := by
      have := HQ.out
      rw [en, ed] at this
      exact this
    generalize (n : Rat) / (d : Rat) = q at *
    go_enter Tryz.func26, Tryz.ntmps26
    go_wp2_with fail
    generalize w.alloc (.cells #[.bool false, .slice none 0 0, .slice none 0 0] 24) = w0 at *
    refine Calls.mono (C1.out w0) ?_
    rintro e w1 ⟨xo, xn, xc, rfl, sx, lx, b1⟩
    go_wp2_with fail
    refine Calls.mono (C2.out w1) ?_
    rintro e w2 ⟨yo, yn, yc, rfl, sy, ly, b2⟩
    have sx2 := sx.later b2
    have bb := (b0.trans (b1.mono b0.size)).trans (b2.mono (by have := b0.size; have := b1.size; omega))
    have rs2 := (rs0.later b1).later b2
    clear sx b1 b2 b0 rs0
    go_wp2_with fail
    refine (read3_any w2 true xo xn xc yo yn yc 2 q ⟨⟨_, _, sx2, sy, by rw [val_toL, val_toL]; exact HS.out⟩, lx, ly⟩ (by omega) (by omega)).mono ?_
    rintro e w3 ⟨s1, no1, nn1, nc1, eo1, en1, ec1, rfl, cq, lb⟩
    have rs1 := rs2.later lb
    obtain ⟨r0, r1, r2⟩ := rs1.cells
    have f0 := rs1.free 0
    have f1 := rs1.free 1
    have f2 := rs1.free 2
    go_wp2
    exact ret_store rfl rfl rfl rs1 (by omega) cq (bb.trans (lb.mono bb.size))
  · have dn : decide (0 ≤ n) = true := by simp; omega
    have dd : decide (0 ≤ d) = true := by simp; omega
    have en : decide (n < 0) = false := by simp; omega
    have ed : decide (d < 0) = false := by simp; omega
    have HS : Hid (rq false n.natAbs d.natAbs = (n : Rat) / (d : Rat)) := by
      have := HQ.out
      rw [en, ed] at this
      exact this
    generalize (n : Rat) / (d : Rat) = q at *
    go_enter Tryz.func26, Tryz.ntmps26
    go_wp2_with fail
    generalize w.alloc (.cells #[.bool false, .slice none 0 0, .slice none 0 0] 24) = w0 at *
    refine Calls.mono (C1.out w0) ?_
    rintro e w1 ⟨xo, xn, xc, rfl, sx, lx, b1⟩
    go_wp2_with fail
    refine Calls.mono (C2.out w1) ?_
    rintro e w2 ⟨yo, yn, yc, rfl, sy, ly, b2⟩
    have sx2 := sx.later b2
    have bb := (b0.trans (b1.mono b0.size)).trans (b2.mono (by have := b0.size; have := b1.size; omega))
    have rs2 := (rs0.later b1).later b2
    clear sx b1 b2 b0 rs0
    go_wp2_with fail
    refine (read3_any w2 false xo xn xc yo yn yc 2 q ⟨⟨_, _, sx2, sy, by rw [val_toL, val_toL]; exact HS.out⟩, lx, ly⟩ (by omega) (by omega)).mono ?_
    rintro e w3 ⟨s1, no1, nn1, nc1, eo1, en1, ec1, rfl, cq, lb⟩
    have rs1 := rs2.later lb
    obtain ⟨r0, r1, r2⟩ := rs1.cells
    have f0 := rs1.free 0
    have f1 := rs1.free 1
    have f2 := rs1.free 2
    go_wp2
    exact ret_store rfl rfl rfl rs1 (by omega) cq (bb.trans (lb.mono bb.size))

end Go.Proofs.YtbobhhnhlgdkiaaGreat

/- penumbraref03: Floor. -/
namespace Go.Proofs.YtbobhhnhlgdkiaaGreat
open Go.RowKit M Kahn
set_option maxRecDepth 100000

end Go.Proofs.YtbobhhnhlgdkiaaGreat

/- penumbraref03: Check. -/
namespace Go.Proofs.YtbobhhnhlgdkiaaGreat
open Go.RowKit M Kahn
set_option maxRecDepth 100000

end Go.Proofs.YtbobhhnhlgdkiaaGreat

/- Lists of Rats; fresh memory inside a region. -/
namespace Go.Proofs.YtbobhhnhlgdkiaaGreat
open Go.RowKit M Kahn
set_option maxRecDepth 100000

theorem Kahn.Goes.run {P : Program} {o : Oper} {ρ : Operand → Value} {u : World} {R : Value → World → Prop} (x : Value) (u' : World) (h : (execOp ρ o).run P u = .ok (.value x) u') (hR : R x u') : Goes P o ρ u R := by
  unfold Goes
  rw [h]
  exact hR

/-- The parts of a Rat. -/
structure RP where
  s : Bool
  no : Option Addr
  nn : Nat
  nc : Nat
  eo : Option Addr
  en : Nat
  ec : Nat
def RP.cells (r : RP) : List Value := [.bool r.s, .slice r.no r.nn r.nc, .slice r.eo r.en r.ec]
def RP.all : List RP → List Value
  | [] => []
  | r :: l => r.cells ++ RP.all l
/-- Rats that are read as these numbers. -/
def RL (u : World) (K : Nat) : List RP → List Rat → Prop
  | [], [] => True
  | r :: rs, q :: qs => Qn u r.s r.no r.nn r.nc r.eo r.en r.ec q K ∧ RL u K rs qs
  | _, _ => False
theorem RL.len {u : World} {K : Nat} : ∀ {rs : List RP} {qs : List Rat}, RL u K rs qs → rs.length = qs.length
  | [], [], _ => rfl
  | r :: rs, q :: qs, h => by rw [List.length_cons, List.length_cons, RL.len h.2]
  | [], _ :: _, h => h.elim
  | _ :: _, [], h => h.elim
theorem RL.later {u u' : World} {K : Nat} (hb : Below u.heap.size u u') : ∀ {rs : List RP} {qs : List Rat}, RL u K rs qs → RL u' K rs qs
  | [], [], _ => trivial
  | _ :: _, _ :: _, h => ⟨h.1.later hb, RL.later hb h.2⟩
  | [], _ :: _, h => h.elim
  | _ :: _, [], h => h.elim

/-- A slice of Rats that are read as qs. -/
def VL (qs : List Rat) (K : Nat) : Value → World → Prop := fun v u =>
  ∃ ao cap rs, v = .slice ao qs.length cap ∧ qs.length ≤ cap ∧ RL u K rs qs ∧ (0 < qs.length → ∃ b o, ao = some ⟨b, o, none⟩ ∧ b < u.heap.size ∧ ∀ i v, (RP.all rs)[i]? = some v → u.cell? ⟨b, o + i, none⟩ = some v)
theorem VL.lasts (qs : List Rat) (K : Nat) : Lasts (VL qs K) := by
  rintro v u u' hb ⟨ao, cap, rs, h1, h2, h3, h4⟩
  refine ⟨ao, cap, rs, h1, h2, h3.later hb, fun h0 => ?_⟩
  obtain ⟨b, o, e1, e2, e3⟩ := h4 h0
  exact ⟨b, o, e1, Nat.lt_of_lt_of_le e2 hb.size, fun i v hv => by rw [hb.cell (p := ⟨b, o + i, none⟩) e2]; exact e3 i v hv⟩
theorem VL.nil (K : Nat) (u : World) : VL [] K (.slice none 0 0) u := ⟨none, 0, [], rfl, Nat.le_refl _, trivial, fun h => absurd h (Nat.lt_irrefl _)⟩
theorem VL.made {u : World} {K : Nat} (rs : List RP) (qs : List Rat) (h : RL u K rs qs) (cs : Array Value) (hc : cs = (RP.all rs).toArray) (n : Nat) (hn : rs.length = n) :
    VL qs K (.slice (some ⟨u.heap.size, 0, none⟩) n n) (u.alloc (.cells cs 24)) := by
  subst hc hn
  have bl : Below u.heap.size u (u.alloc (.cells (RP.all rs).toArray 24)) := (Below.refl _ _).alloc (Nat.le_refl _) _
  refine ⟨some ⟨u.heap.size, 0, none⟩, rs.length, rs, by rw [h.len], by rw [h.len]; exact Nat.le_refl _, h.later bl, fun _ => ⟨u.heap.size, 0, rfl, by simp, fun i v hv => ?_⟩⟩
  rw [Nat.zero_add, cell_of_row _ u.heap.size i _ _ _ (heap_alloc_new _ _)]
  simpa using hv
end Go.Proofs.YtbobhhnhlgdkiaaGreat
