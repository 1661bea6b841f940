/- penumbralaw05.VecLengths: true. -/
import Derived.Test.YtmbemidacilakaaAs
import Derived.Test.YtmbemidacilakaaBYm
namespace Go.Proofs.Ytmbemidacilakaa
open Go.RowKit M Kahn
set_option maxRecDepth 100000

theorem unit_dot {x y z l : Rat} (h : 0 < l) (hn : x * x + y * y + z * z = l * l) : 1 / l * x * (1 / l * x) + 1 / l * y * (1 / l * y) + 1 / l * z * (1 / l * z) = 1 := by
  have h0 : l ≠ 0 := by grind
  have : 1 / l * x * (1 / l * x) + 1 / l * y * (1 / l * y) + 1 / l * z * (1 / l * z) = 1 / l * (1 / l) * (x * x + y * y + z * z) := by grind
  rw [this, hn]
  grind
theorem unit_back {x l : Rat} (h : 0 < l) : l * (1 / l * x) = x := by
  have h0 : l ≠ 0 := by grind
  grind
theorem unit_neg {k x l : Rat} (hk : k < 0) (h : 0 < l) : 1 / (-(k * l)) * (k * x) = -1 * (1 / l * x) := by
  have h0 : l ≠ 0 := by grind
  have h1 : k ≠ 0 := by grind
  grind
theorem unit_pos {k x l : Rat} (hk : 0 < k) (h : 0 < l) : 1 / (k * l) * (k * x) = 1 * (1 / l * x) := by
  have h0 : l ≠ 0 := by grind
  have h1 : k ≠ 0 := by grind
  grind
set_option maxHeartbeats 16000000 in
theorem vlengths_any (w0 : World) (a1 a2 a3 : RP) (k : RP) (qa1 qa2 qa3 qk : Rat) (K : Nat) (ha : Qv w0 a1 a2 a3 qa1 qa2 qa3 K) (hk : Qp w0 k qk K) (K1 : 1 ≤ K) (hK : K ≤ 1048576) : Calls Try.prog 7 #[.agg #[.bool a1.s, .slice a1.no a1.nn a1.nc, .slice a1.eo a1.en a1.ec, .bool a2.s, .slice a2.no a2.nn a2.nc, .slice a2.eo a2.en a2.ec, .bool a3.s, .slice a3.no a3.nn a3.nc, .slice a3.eo a3.en a3.ec], .agg #[.bool k.s, .slice k.no k.nn k.nc, .slice k.eo k.en k.ec]] w0 fun e w' => e = .returned (.bool true) ∧ Below w0.heap.size w0 w' := by
  have B0 : Below w0.heap.size w0 w0 := Below.refl _ _
  obtain ⟨w1, hw, xa, xk, lb⟩ := bx_VR w0 a1 a2 a3 k
  obtain ⟨ga, hga⟩ : ∃ ga, ga = w0.heap.size := ⟨_, rfl⟩
  obtain ⟨gk, hgk⟩ : ∃ gk, gk = w0.heap.size + 1 := ⟨_, rfl⟩
  replace ha := ha.later lb
  replace hk := hk.later lb
  have B1 := B0.trans (lb.mono B0.size)
  clear B0 lb
  obtain ⟨xa_0, xa_1, xa_2⟩ := xa.c0
  obtain ⟨xa_3, xa_4, xa_5⟩ := xa.c1
  obtain ⟨xa_6, xa_7, xa_8⟩ := xa.c2
  obtain ⟨xk_0, xk_1, xk_2⟩ := xk.cells
  rw [hw] at xa_0 xa_1 xa_2 xa_3 xa_4 xa_5 xa_6 xa_7 xa_8 xk_0 xk_1 xk_2
  go_enter Try.func7, Try.ntmps7
  go_wp2_with fail
  rw [← hw, ← hgk, ← hga]
  rw [← hga] at xa
  rw [← hgk] at xk
  clear hw hga hgk xa_0 xa_1 xa_2 xa_3 xa_4 xa_5 xa_6 xa_7 xa_8 xk_0 xk_1 xk_2
  have hr := qsgn_range qk
  by_cases hok : uok (qa1 * qa1 + qa2 * qa2 + qa3 * qa3) = true
  · obtain ⟨l, hl, hn, e1, e2⟩ := uok_len hok
    have hsl : qsgn l = 1 := by rcases qsgn_cases l with ⟨_, h⟩ | ⟨_, h⟩ | ⟨h, _⟩ <;> first | exact h | (exfalso; grind)
    refine (vunit_k ha (by omega) (by omega)).mono ?_
    rintro e w2 ⟨ua, ub, uc, ud, rfl, cu, cl, lb⟩
    replace ha := ha.later lb
    replace hk := hk.later lb
    replace xa := xa.later lb
    replace xk := xk.later lb
    have B2 := B1.trans (lb.mono B1.size)
    clear B1 lb
    rw [hok]
    rw [e1] at cl
    rw [e2, e2, e2] at cu
    obtain ⟨w3, hw, xu, xl, lb⟩ := bx_VR w2 ua ub uc ud
    obtain ⟨gu, hgu⟩ : ∃ gu, gu = w2.heap.size := ⟨_, rfl⟩
    rw [← hgu] at xu
    obtain ⟨gl, hgl⟩ : ∃ gl, gl = w2.heap.size + 1 := ⟨_, rfl⟩
    rw [← hgl] at xl
    replace ha := ha.later lb
    replace hk := hk.later lb
    replace xa := xa.later lb
    replace xk := xk.later lb
    replace cu := cu.later lb
    replace cl := cl.later lb
    have B3 := B2.trans (lb.mono B2.size)
    clear B2 lb
    go_wp2_with fail
    rw [← hw, ← hgl, ← hgu]
    clear hw hgu hgl
    refine (fixed5_any w3).mono ?_
    rintro e w4 ⟨rfl, lb⟩
    replace ha := ha.later lb
    replace hk := hk.later lb
    replace xa := xa.later lb
    replace xk := xk.later lb
    replace cu := cu.later lb
    replace cl := cl.later lb
    replace xu := xu.later lb
    replace xl := xl.later lb
    have B4 := B3.trans (lb.mono B3.size)
    clear B3 lb
    obtain ⟨xa_0, xa_1, xa_2⟩ := xa.c0
    obtain ⟨xa_3, xa_4, xa_5⟩ := xa.c1
    obtain ⟨xa_6, xa_7, xa_8⟩ := xa.c2
    obtain ⟨xk_0, xk_1, xk_2⟩ := xk.cells
    go_wp2_with fail
    clear xa_0 xa_1 xa_2 xa_3 xa_4 xa_5 xa_6 xa_7 xa_8 xk_0 xk_1 xk_2
    refine (vscale_k (k := k) hk ha (by omega) (by omega) (by omega)).mono ?_
    rintro e w5 ⟨ra, rb, rc, rfl, cs, lb⟩
    replace ha := ha.later lb
    replace hk := hk.later lb
    replace xa := xa.later lb
    replace xk := xk.later lb
    replace cu := cu.later lb
    replace cl := cl.later lb
    replace xu := xu.later lb
    replace xl := xl.later lb
    have B5 := B4.trans (lb.mono B4.size)
    clear B4 lb
    go_wp2_with fail
    have hN : (qk * qa1) * (qk * qa1) + (qk * qa2) * (qk * qa2) + (qk * qa3) * (qk * qa3) = (qk * l) * (qk * l) := by clear e2; grind
    obtain ⟨o1, o2, o3⟩ := uok_square (qk * l)
    rcases qabs_cases qk with ⟨hsk, hk0, hab⟩ | ⟨hsk, hk0, hab⟩ | ⟨hsk, hk0, hab⟩
    · have hm : qk * l < 0 := by clear e2; have := Rat.mul_pos (show 0 < -qk by grind) hl; grind
      have hq : qabs (qk * l) = -(qk * l) := by rcases qabs_cases (qk * l) with ⟨_, h, e⟩ | ⟨_, h, e⟩ | ⟨_, h, e⟩ <;> first | exact e | (exfalso; clear e2 o3; grind)
      rw [if_neg (by grind), hq] at o2
      simp only [if_neg (show ¬ qk * l = 0 by grind), hq] at o3
      rw [decide_eq_true (by grind)] at o1
      rw [← hN] at o1 o2
      simp only [← hN] at o3
      refine (vunit_k cs.rd (by omega) (by omega)).mono ?_
      rintro e w6 ⟨wa, wb, wc, wd, rfl, cw, cm, lb⟩
      replace ha := ha.later lb
      replace hk := hk.later lb
      replace xa := xa.later lb
      replace xk := xk.later lb
      replace cu := cu.later lb
      replace cl := cl.later lb
      replace xu := xu.later lb
      replace xl := xl.later lb
      replace cs := cs.later lb
      have B6 := B5.trans (lb.mono B5.size)
      clear B5 lb
      rw [o1]
      rw [o2] at cm
      rw [o3, o3, o3] at cw
      obtain ⟨w7, hw, xw, xm, lb⟩ := bx_VR w6 wa wb wc wd
      obtain ⟨gw, hgw⟩ : ∃ gw, gw = w6.heap.size := ⟨_, rfl⟩
      rw [← hgw] at xw
      obtain ⟨gm, hgm⟩ : ∃ gm, gm = w6.heap.size + 1 := ⟨_, rfl⟩
      rw [← hgm] at xm
      replace ha := ha.later lb
      replace hk := hk.later lb
      replace xa := xa.later lb
      replace xk := xk.later lb
      replace cu := cu.later lb
      replace cl := cl.later lb
      replace xu := xu.later lb
      replace xl := xl.later lb
      replace cs := cs.later lb
      replace cw := cw.later lb
      replace cm := cm.later lb
      have B7 := B6.trans (lb.mono B6.size)
      clear B6 lb
      go_wp2
      rw [← hw, ← hgm, ← hgw]
      clear hw hgw hgm
      clear o1 o2 o3 e2 cs
      have d1 : (1 / l * qa1) * (1 / l * qa1) + (1 / l * qa2) * (1 / l * qa2) + (1 / l * qa3) * (1 / l * qa3) = 1 := unit_dot hl hn
      have HLst : Lst [VV (.agg #[.bool ua.s, .slice ua.no ua.nn ua.nc, .slice ua.eo ua.en ua.ec, .bool ub.s, .slice ub.no ub.nn ub.nc, .slice ub.eo ub.en ub.ec, .bool uc.s, .slice uc.no uc.nn uc.nc, .slice uc.eo uc.en uc.ec]), VV (.agg #[.bool ua.s, .slice ua.no ua.nn ua.nc, .slice ua.eo ua.en ua.ec, .bool ub.s, .slice ub.no ub.nn ub.nc, .slice ub.eo ub.en ub.ec, .bool uc.s, .slice uc.no uc.nn uc.nc, .slice uc.eo uc.en uc.ec]), VC ((1 / l * qa1) * (1 / l * qa1) + (1 / l * qa2) * (1 / l * qa2) + (1 / l * qa3) * (1 / l * qa3)) (3 * (7 * K + 4 + (7 * K + 4)) + 2), VC (1) (1), VV (.bool true), VV (.bool false), VV (.bool false), VV (.agg #[.bool ud.s, .slice ud.no ud.nn ud.nc, .slice ud.eo ud.en ud.ec]), VV (.agg #[.bool ua.s, .slice ua.no ua.nn ua.nc, .slice ua.eo ua.en ua.ec, .bool ub.s, .slice ub.no ub.nn ub.nc, .slice ub.eo ub.en ub.ec, .bool uc.s, .slice uc.no uc.nn uc.nc, .slice uc.eo uc.en uc.ec]), VG (l * (1 / l * qa1)) (l * (1 / l * qa2)) (l * (1 / l * qa3)) (7 * K + 4 + (7 * K + 4)), VV (.agg #[.bool a1.s, .slice a1.no a1.nn a1.nc, .slice a1.eo a1.en a1.ec, .bool a2.s, .slice a2.no a2.nn a2.nc, .slice a2.eo a2.en a2.ec, .bool a3.s, .slice a3.no a3.nn a3.nc, .slice a3.eo a3.en a3.ec]), VG (qa1) (qa2) (qa3) (K), VV (.bool true), VV (.bool false), VV (.bool false), VV (.bool false), VV (.agg #[.bool ud.s, .slice ud.no ud.nn ud.nc, .slice ud.eo ud.en ud.ec]), VV (.int .i64 (qsgn (l))), VV (.bool false), VV (.bool false), VV (.bool false), VV (.bool true), VV (.agg #[.bool k.s, .slice k.no k.nn k.nc, .slice k.eo k.en k.ec]), VV (.int .i64 (qsgn (qk))), VV (.bool true), VV (.bool false)] := ⟨VV.lasts _, VV.lasts _, VC.lasts _ _, VC.lasts _ _, VV.lasts _, VV.lasts _, VV.lasts _, VV.lasts _, VV.lasts _, VG.lasts _ _ _ _, VV.lasts _, VG.lasts _ _ _ _, VV.lasts _, VV.lasts _, VV.lasts _, VV.lasts _, VV.lasts _, VV.lasts _, VV.lasts _, VV.lasts _, VV.lasts _, VV.lasts _, VV.lasts _, VV.lasts _, VV.lasts _, VV.lasts _, trivial⟩
      refine wp_region_kahn 26 79 [([], [5]), ([], [5]), ([(0, 32), (1, 33)], []), ([], []), ([(2, 34), (3, 35)], []), ([(4, 36)], []), ([(5, 37)], []), ([], [6]), ([], [5]), ([(7, 39), (8, 40)], []), ([], [2]), ([(10, 42)], []), ([(9, 41), (11, 43)], []), ([(12, 44)], []), ([(6, 38), (13, 45)], []), ([(14, 46)], []), ([], [6]), ([(16, 48)], []), ([(17, 49)], []), ([(15, 47), (18, 50)], []), ([(19, 51)], []), ([], [10]), ([], [3]), ([(22, 54)], []), ([(23, 55)], []), ([(21, 53), (24, 56)], [])]
        (fun u => Below w7.heap.size w7 u) (fun u u' => Below u.heap.size u u')
        (Sp [VV (.agg #[.bool ua.s, .slice ua.no ua.nn ua.nc, .slice ua.eo ua.en ua.ec, .bool ub.s, .slice ub.no ub.nn ub.nc, .slice ub.eo ub.en ub.ec, .bool uc.s, .slice uc.no uc.nn uc.nc, .slice uc.eo uc.en uc.ec]), VV (.agg #[.bool ua.s, .slice ua.no ua.nn ua.nc, .slice ua.eo ua.en ua.ec, .bool ub.s, .slice ub.no ub.nn ub.nc, .slice ub.eo ub.en ub.ec, .bool uc.s, .slice uc.no uc.nn uc.nc, .slice uc.eo uc.en uc.ec]), VC ((1 / l * qa1) * (1 / l * qa1) + (1 / l * qa2) * (1 / l * qa2) + (1 / l * qa3) * (1 / l * qa3)) (3 * (7 * K + 4 + (7 * K + 4)) + 2), VC (1) (1), VV (.bool true), VV (.bool false), VV (.bool false), VV (.agg #[.bool ud.s, .slice ud.no ud.nn ud.nc, .slice ud.eo ud.en ud.ec]), VV (.agg #[.bool ua.s, .slice ua.no ua.nn ua.nc, .slice ua.eo ua.en ua.ec, .bool ub.s, .slice ub.no ub.nn ub.nc, .slice ub.eo ub.en ub.ec, .bool uc.s, .slice uc.no uc.nn uc.nc, .slice uc.eo uc.en uc.ec]), VG (l * (1 / l * qa1)) (l * (1 / l * qa2)) (l * (1 / l * qa3)) (7 * K + 4 + (7 * K + 4)), VV (.agg #[.bool a1.s, .slice a1.no a1.nn a1.nc, .slice a1.eo a1.en a1.ec, .bool a2.s, .slice a2.no a2.nn a2.nc, .slice a2.eo a2.en a2.ec, .bool a3.s, .slice a3.no a3.nn a3.nc, .slice a3.eo a3.en a3.ec]), VG (qa1) (qa2) (qa3) (K), VV (.bool true), VV (.bool false), VV (.bool false), VV (.bool false), VV (.agg #[.bool ud.s, .slice ud.no ud.nn ud.nc, .slice ud.eo ud.en ud.ec]), VV (.int .i64 (qsgn (l))), VV (.bool false), VV (.bool false), VV (.bool false), VV (.bool true), VV (.agg #[.bool k.s, .slice k.no k.nn k.nc, .slice k.eo k.en k.ec]), VV (.int .i64 (qsgn (qk))), VV (.bool true), VV (.bool false)])
        (by kernel_rfl) rfl (by kernel_rfl) (Below.refl _ _).drew (fun k v u u' _ hg hs => Sp.lasts HLst k v u u' hg hs) ?_ ?_
      · clear HLst
        refine ⟨.inl ⟨by simp, fun ρ u hC hc hf hd ho => ?_⟩, .inl ⟨by simp, fun ρ u hC hc hf hd ho => ?_⟩, .inl ⟨by simp, fun ρ u hC hc hf hd ho => ?_⟩, .inl ⟨by simp, fun ρ u hC hc hf hd ho => ?_⟩, .inl ⟨by simp, fun ρ u hC hc hf hd ho => ?_⟩, .inl ⟨by simp, fun ρ u hC hc hf hd ho => ?_⟩, .inl ⟨by simp, fun ρ u hC hc hf hd ho => ?_⟩, .inl ⟨guard_of rfl fun _ _ h => h, fun ρ u hC hc hf hd ho => ?_⟩, .inl ⟨guard_of rfl fun _ _ h => h, fun ρ u hC hc hf hd ho => ?_⟩, .inl ⟨guard_of rfl fun _ _ h => h, fun ρ u hC hc hf hd ho => ?_⟩, .inl ⟨guard_of rfl fun _ _ h => h, fun ρ u hC hc hf hd ho => ?_⟩, .inl ⟨guard_of rfl fun _ _ h => h, fun ρ u hC hc hf hd ho => ?_⟩, .inl ⟨guard_of rfl fun _ _ h => h, fun ρ u hC hc hf hd ho => ?_⟩, .inl ⟨guard_of rfl fun _ _ h => h, fun ρ u hC hc hf hd ho => ?_⟩, .inl ⟨by simp, fun ρ u hC hc hf hd ho => ?_⟩, .inl ⟨by simp, fun ρ u hC hc hf hd ho => ?_⟩, .inl ⟨guard_of rfl fun _ _ h => h, fun ρ u hC hc hf hd ho => ?_⟩, .inl ⟨guard_of rfl fun _ _ h => h, fun ρ u hC hc hf hd ho => ?_⟩, .inl ⟨guard_of rfl fun _ _ h => h, fun ρ u hC hc hf hd ho => ?_⟩, .inl ⟨by simp, fun ρ u hC hc hf hd ho => ?_⟩, .inl ⟨by simp, fun ρ u hC hc hf hd ho => ?_⟩, .inl ⟨guard_of rfl fun _ _ h => h, fun ρ u hC hc hf hd ho => ?_⟩, .inl ⟨guard_of rfl fun _ _ h => h, fun ρ u hC hc hf hd ho => ?_⟩, .inl ⟨guard_of rfl fun _ _ h => h, fun ρ u hC hc hf hd ho => ?_⟩, .inl ⟨guard_of rfl fun _ _ h => h, fun ρ u hC hc hf hd ho => ?_⟩, .inl ⟨guard_of rfl fun _ _ h => h, fun ρ u hC hc hf hd ho => ?_⟩, trivial⟩
        · have e5 : ρ (.tmp 5) = .pointer (some ⟨gu, 0, none⟩) := ho 5 (by simp)
          obtain ⟨c0, c1, c2⟩ := (xu.later hC).c0
          obtain ⟨c3, c4, c5⟩ := (xu.later hC).c1
          obtain ⟨c6, c7, c8⟩ := (xu.later hC).c2
          refine Goes.pure (.agg #[.bool ua.s, .slice ua.no ua.nn ua.nc, .slice ua.eo ua.en ua.ec, .bool ub.s, .slice ub.no ub.nn ub.nc, .slice ub.eo ub.en ub.ec, .bool uc.s, .slice uc.no uc.nn uc.nc, .slice uc.eo uc.en uc.ec]) ?_ ⟨hC, Below.refl _ _, rfl⟩
          unfold Goes
          go_simp
        · have e5 : ρ (.tmp 5) = .pointer (some ⟨gu, 0, none⟩) := ho 5 (by simp)
          obtain ⟨c0, c1, c2⟩ := (xu.later hC).c0
          obtain ⟨c3, c4, c5⟩ := (xu.later hC).c1
          obtain ⟨c6, c7, c8⟩ := (xu.later hC).c2
          refine Goes.pure (.agg #[.bool ua.s, .slice ua.no ua.nn ua.nc, .slice ua.eo ua.en ua.ec, .bool ub.s, .slice ub.no ub.nn ub.nc, .slice ub.eo ub.en ub.ec, .bool uc.s, .slice uc.no uc.nn uc.nc, .slice uc.eo uc.en uc.ec]) ?_ ⟨hC, Below.refl _ _, rfl⟩
          unfold Goes
          go_simp
        · have e32 : ρ (.tmp 32) = .agg #[.bool ua.s, .slice ua.no ua.nn ua.nc, .slice ua.eo ua.en ua.ec, .bool ub.s, .slice ub.no ub.nn ub.nc, .slice ub.eo ub.en ub.ec, .bool uc.s, .slice uc.no uc.nn uc.nc, .slice uc.eo uc.en uc.ec] := hd (0, 32) (by simp)
          have e33 : ρ (.tmp 33) = .agg #[.bool ua.s, .slice ua.no ua.nn ua.nc, .slice ua.eo ua.en ua.ec, .bool ub.s, .slice ub.no ub.nn ub.nc, .slice ub.eo ub.en ub.ec, .bool uc.s, .slice uc.no uc.nn uc.nc, .slice uc.eo uc.en uc.ec] := hd (1, 33) (by simp)
          refine Goes.call 17 #[.agg #[.bool ua.s, .slice ua.no ua.nn ua.nc, .slice ua.eo ua.en ua.ec, .bool ub.s, .slice ub.no ub.nn ub.nc, .slice ub.eo ub.en ub.ec, .bool uc.s, .slice uc.no uc.nn uc.nc, .slice uc.eo uc.en uc.ec], .agg #[.bool ua.s, .slice ua.no ua.nn ua.nc, .slice ua.eo ua.en ua.ec, .bool ub.s, .slice ub.no ub.nn ub.nc, .slice ub.eo ub.en ub.ec, .bool uc.s, .slice uc.no uc.nn uc.nc, .slice uc.eo uc.en uc.ec]] (by go_simp) ?_
          refine Calls.mono (vdot_k ((cu.later hC).rd) ((cu.later hC).rd) (by omega) (by omega) (by omega)) ?_
          rintro e u' ⟨s1, no1, nn1, nc1, eo1, en1, ec1, rfl, cq, lb⟩
          exact ⟨_, rfl, hC.trans (lb.mono hC.size), lb, ⟨s1, no1, nn1, nc1, eo1, en1, ec1, rfl, cq⟩⟩
        · refine Goes.call 31 #[] (by go_simp) ?_
          refine Calls.mono (one3_any u) ?_
          rintro e u' ⟨s1, no1, nn1, nc1, eo1, en1, ec1, rfl, cq, lb⟩
          exact ⟨_, rfl, hC.trans (lb.mono hC.size), lb, ⟨s1, no1, nn1, nc1, eo1, en1, ec1, rfl, cq⟩⟩
        · obtain ⟨s34, no34, nn34, nc34, eo34, en34, ec34, e34, k34⟩ : VC ((1 / l * qa1) * (1 / l * qa1) + (1 / l * qa2) * (1 / l * qa2) + (1 / l * qa3) * (1 / l * qa3)) (3 * (7 * K + 4 + (7 * K + 4)) + 2) (ρ (.tmp 34)) u := hd (2, 34) (by simp)
          obtain ⟨s35, no35, nn35, nc35, eo35, en35, ec35, e35, k35⟩ : VC (1) (1) (ρ (.tmp 35)) u := hd (3, 35) (by simp)
          refine Goes.call 16 #[.agg #[.bool s34, .slice no34 nn34 nc34, .slice eo34 en34 ec34], .agg #[.bool s35, .slice no35 nn35 nc35, .slice eo35 en35 ec35]] (by go_simp) ?_
          refine Calls.mono (is3_any u s34 no34 nn34 nc34 eo34 en34 ec34 s35 no35 nn35 nc35 eo35 en35 ec35 _ _ _ _ k34.num k34.den k35.num k35.den (by have := k34.ln; omega) (by have := k34.ld; omega) (by have := k35.ln; omega) (by have := k35.ld; omega)) ?_
          rintro e u' ⟨r, rfl, HR, lb⟩
          exact ⟨_, rfl, hC.trans (lb.mono hC.size), lb, by rw [HR.out.2 (cq_same k34 k35 (d1))]; rfl⟩
        · have e36 : ρ (.tmp 36) = .bool true := hd (4, 36) (by simp)
          refine Goes.pure (.bool false) ?_ ⟨hC, Below.refl _ _, rfl⟩
          unfold Goes
          go_simp
        · have e37 : ρ (.tmp 37) = .bool false := hd (5, 37) (by simp)
          refine Goes.pure (.bool false) ?_ ⟨hC, Below.refl _ _, rfl⟩
          unfold Goes
          go_simp
        · have e6 : ρ (.tmp 6) = .pointer (some ⟨gl, 0, none⟩) := ho 6 (by simp)
          obtain ⟨c0, c1, c2⟩ := (xl.later hC).cells
          refine Goes.pure (.agg #[.bool ud.s, .slice ud.no ud.nn ud.nc, .slice ud.eo ud.en ud.ec]) ?_ ⟨hC, Below.refl _ _, rfl⟩
          unfold Goes
          go_simp
        · have e5 : ρ (.tmp 5) = .pointer (some ⟨gu, 0, none⟩) := ho 5 (by simp)
          obtain ⟨c0, c1, c2⟩ := (xu.later hC).c0
          obtain ⟨c3, c4, c5⟩ := (xu.later hC).c1
          obtain ⟨c6, c7, c8⟩ := (xu.later hC).c2
          refine Goes.pure (.agg #[.bool ua.s, .slice ua.no ua.nn ua.nc, .slice ua.eo ua.en ua.ec, .bool ub.s, .slice ub.no ub.nn ub.nc, .slice ub.eo ub.en ub.ec, .bool uc.s, .slice uc.no uc.nn uc.nc, .slice uc.eo uc.en uc.ec]) ?_ ⟨hC, Below.refl _ _, rfl⟩
          unfold Goes
          go_simp
        · have e39 : ρ (.tmp 39) = .agg #[.bool ud.s, .slice ud.no ud.nn ud.nc, .slice ud.eo ud.en ud.ec] := hd (7, 39) (by simp)
          have e40 : ρ (.tmp 40) = .agg #[.bool ua.s, .slice ua.no ua.nn ua.nc, .slice ua.eo ua.en ua.ec, .bool ub.s, .slice ub.no ub.nn ub.nc, .slice ub.eo ub.en ub.ec, .bool uc.s, .slice uc.no uc.nn uc.nc, .slice uc.eo uc.en uc.ec] := hd (8, 40) (by simp)
          refine Goes.call 14 #[.agg #[.bool ud.s, .slice ud.no ud.nn ud.nc, .slice ud.eo ud.en ud.ec], .agg #[.bool ua.s, .slice ua.no ua.nn ua.nc, .slice ua.eo ua.en ua.ec, .bool ub.s, .slice ub.no ub.nn ub.nc, .slice ub.eo ub.en ub.ec, .bool uc.s, .slice uc.no uc.nn uc.nc, .slice uc.eo uc.en uc.ec]] (by go_simp) ?_
          refine Calls.mono (vscale_k (k := ⟨ud.s, ud.no, ud.nn, ud.nc, ud.eo, ud.en, ud.ec⟩) ((cl.later hC).rd) ((cu.later hC).rd) (by omega) (by omega) (by omega)) ?_
          rintro e u' ⟨ra, rb, rc, rfl, cv, lb⟩
          exact ⟨_, rfl, hC.trans (lb.mono hC.size), lb, ⟨ra, rb, rc, rfl, cv⟩⟩
        · have e2 : ρ (.tmp 2) = .pointer (some ⟨ga, 0, none⟩) := ho 2 (by simp)
          obtain ⟨c0, c1, c2⟩ := (xa.later hC).c0
          obtain ⟨c3, c4, c5⟩ := (xa.later hC).c1
          obtain ⟨c6, c7, c8⟩ := (xa.later hC).c2
          refine Goes.pure (.agg #[.bool a1.s, .slice a1.no a1.nn a1.nc, .slice a1.eo a1.en a1.ec, .bool a2.s, .slice a2.no a2.nn a2.nc, .slice a2.eo a2.en a2.ec, .bool a3.s, .slice a3.no a3.nn a3.nc, .slice a3.eo a3.en a3.ec]) ?_ ⟨hC, Below.refl _ _, rfl⟩
          unfold Goes
          go_simp
        · have e42 : ρ (.tmp 42) = .agg #[.bool a1.s, .slice a1.no a1.nn a1.nc, .slice a1.eo a1.en a1.ec, .bool a2.s, .slice a2.no a2.nn a2.nc, .slice a2.eo a2.en a2.ec, .bool a3.s, .slice a3.no a3.nn a3.nc, .slice a3.eo a3.en a3.ec] := hd (10, 42) (by simp)
          refine Goes.call 21 #[.agg #[.bool a1.s, .slice a1.no a1.nn a1.nc, .slice a1.eo a1.en a1.ec, .bool a2.s, .slice a2.no a2.nn a2.nc, .slice a2.eo a2.en a2.ec, .bool a3.s, .slice a3.no a3.nn a3.nc, .slice a3.eo a3.en a3.ec]] (by go_simp) ?_
          refine Calls.mono (vread_k (ha.later hC) (by omega) (by omega)) ?_
          rintro e u' ⟨ra, rb, rc, rfl, cv, lb⟩
          exact ⟨_, rfl, hC.trans (lb.mono hC.size), lb, ⟨ra, rb, rc, rfl, cv⟩⟩
        · obtain ⟨ra41, rb41, rc41, e41, k41⟩ : VG (l * (1 / l * qa1)) (l * (1 / l * qa2)) (l * (1 / l * qa3)) (7 * K + 4 + (7 * K + 4)) (ρ (.tmp 41)) u := hd (9, 41) (by simp)
          obtain ⟨ra43, rb43, rc43, e43, k43⟩ : VG (qa1) (qa2) (qa3) (K) (ρ (.tmp 43)) u := hd (11, 43) (by simp)
          refine Goes.call 9 #[.agg #[.bool ra41.s, .slice ra41.no ra41.nn ra41.nc, .slice ra41.eo ra41.en ra41.ec, .bool rb41.s, .slice rb41.no rb41.nn rb41.nc, .slice rb41.eo rb41.en rb41.ec, .bool rc41.s, .slice rc41.no rc41.nn rc41.nc, .slice rc41.eo rc41.en rc41.ec], .agg #[.bool ra43.s, .slice ra43.no ra43.nn ra43.nc, .slice ra43.eo ra43.en ra43.ec, .bool rb43.s, .slice rb43.no rb43.nn rb43.nc, .slice rb43.eo rb43.en rb43.ec, .bool rc43.s, .slice rc43.no rc43.nn rc43.nc, .slice rc43.eo rc43.en rc43.ec]] (by go_simp) ?_
          refine Calls.mono (vis5 (k41) (k43) (by omega) (by omega)) ?_
          rintro e u' ⟨r, rfl, HR, lb⟩
          exact ⟨_, rfl, hC.trans (lb.mono hC.size), lb, by rw [HR.out.2 ⟨unit_back hl, unit_back hl, unit_back hl⟩]; rfl⟩
        · have e44 : ρ (.tmp 44) = .bool true := hd (12, 44) (by simp)
          refine Goes.pure (.bool false) ?_ ⟨hC, Below.refl _ _, rfl⟩
          unfold Goes
          go_simp
        · have e38 : ρ (.tmp 38) = .bool false := hd (6, 38) (by simp)
          have e45 : ρ (.tmp 45) = .bool false := hd (13, 45) (by simp)
          refine Goes.pure (.bool false) ?_ ⟨hC, Below.refl _ _, rfl⟩
          unfold Goes
          go_simp
        · have e46 : ρ (.tmp 46) = .bool false := hd (14, 46) (by simp)
          refine Goes.pure (.bool false) ?_ ⟨hC, Below.refl _ _, rfl⟩
          unfold Goes
          go_simp
        · have e6 : ρ (.tmp 6) = .pointer (some ⟨gl, 0, none⟩) := ho 6 (by simp)
          obtain ⟨c0, c1, c2⟩ := (xl.later hC).cells
          refine Goes.pure (.agg #[.bool ud.s, .slice ud.no ud.nn ud.nc, .slice ud.eo ud.en ud.ec]) ?_ ⟨hC, Below.refl _ _, rfl⟩
          unfold Goes
          go_simp
        · have e48 : ρ (.tmp 48) = .agg #[.bool ud.s, .slice ud.no ud.nn ud.nc, .slice ud.eo ud.en ud.ec] := hd (16, 48) (by simp)
          refine Goes.call 26 #[.agg #[.bool ud.s, .slice ud.no ud.nn ud.nc, .slice ud.eo ud.en ud.ec]] (by go_simp) ?_
          refine Calls.mono (ratSign_k (cl.later hC).rd (by omega)) ?_
          rintro e u' ⟨rfl, lb⟩
          exact ⟨_, rfl, hC.trans (lb.mono hC.size), lb, rfl⟩
        · have e49 : ρ (.tmp 49) = .int .i64 (qsgn (l)) := hd (17, 49) (by simp)
          rw [hsl] at e49
          refine Goes.pure (.bool false) ?_ ⟨hC, Below.refl _ _, rfl⟩
          unfold Goes
          go_simp
        · have e47 : ρ (.tmp 47) = .bool false := hd (15, 47) (by simp)
          have e50 : ρ (.tmp 50) = .bool false := hd (18, 50) (by simp)
          refine Goes.pure (.bool false) ?_ ⟨hC, Below.refl _ _, rfl⟩
          unfold Goes
          go_simp
        · have e51 : ρ (.tmp 51) = .bool false := hd (19, 51) (by simp)
          refine Goes.pure (.bool false) ?_ ⟨hC, Below.refl _ _, rfl⟩
          unfold Goes
          go_simp
        · have e10 : ρ (.tmp 10) = .bool true := ho 10 (by simp)
          refine Goes.pure (.bool true) ?_ ⟨hC, Below.refl _ _, rfl⟩
          unfold Goes
          go_simp
        · have e3 : ρ (.tmp 3) = .pointer (some ⟨gk, 0, none⟩) := ho 3 (by simp)
          obtain ⟨c0, c1, c2⟩ := (xk.later hC).cells
          refine Goes.pure (.agg #[.bool k.s, .slice k.no k.nn k.nc, .slice k.eo k.en k.ec]) ?_ ⟨hC, Below.refl _ _, rfl⟩
          unfold Goes
          go_simp
        · have e54 : ρ (.tmp 54) = .agg #[.bool k.s, .slice k.no k.nn k.nc, .slice k.eo k.en k.ec] := hd (22, 54) (by simp)
          refine Goes.call 26 #[.agg #[.bool k.s, .slice k.no k.nn k.nc, .slice k.eo k.en k.ec]] (by go_simp) ?_
          refine Calls.mono (ratSign_k (hk.later hC) (by omega)) ?_
          rintro e u' ⟨rfl, lb⟩
          exact ⟨_, rfl, hC.trans (lb.mono hC.size), lb, rfl⟩
        · have e55 : ρ (.tmp 55) = .int .i64 (qsgn (qk)) := hd (23, 55) (by simp)
          rw [hsk] at e55
          refine Goes.pure (.bool true) ?_ ⟨hC, Below.refl _ _, rfl⟩
          unfold Goes
          go_simp
        · have e53 : ρ (.tmp 53) = .bool true := hd (21, 53) (by simp)
          have e56 : ρ (.tmp 56) = .bool true := hd (24, 56) (by simp)
          refine Goes.pure (.bool false) ?_ ⟨hC, Below.refl _ _, rfl⟩
          unfold Goes
          go_simp
      · intro vs u lb hv
        have eR : vs 20 = .bool false := hv 20 (by omega)
        have eS : vs 25 = .bool false := hv 25 (by omega)
        clear hv
        simp only [puts, List.take, List.drop, Act.put, List.setIfInBounds_toArray, List.set_cons_succ, List.set_cons_zero, Nat.reduceAdd, eR, eS]
        clear eR eS
        go_wp2
        obtain ⟨w8, rfl⟩ : ∃ w8, w8 = u := ⟨_, rfl⟩
        replace ha := ha.later lb
        replace hk := hk.later lb
        replace xa := xa.later lb
        replace xk := xk.later lb
        replace cu := cu.later lb
        replace cl := cl.later lb
        replace xu := xu.later lb
        replace xl := xl.later lb
        replace cw := cw.later lb
        replace cm := cm.later lb
        replace xw := xw.later lb
        replace xm := xm.later lb
        have B8 := B7.trans (lb.mono B7.size)
        clear B7 lb
        have hs1 : (((qsgn (qk)) : Int) : Rat) / ((1 : Int) : Rat) = -1 := by rw [hsk]; decide +kernel
        have HLst : Lst [VV (.bool true), VV (.bool false), VV (.bool false), VV (.agg #[.bool wd.s, .slice wd.no wd.nn wd.nc, .slice wd.eo wd.en wd.ec]), VV (.agg #[.bool k.s, .slice k.no k.nn k.nc, .slice k.eo k.en k.ec]), VC (qabs (qk)) (K), VV (.agg #[.bool ud.s, .slice ud.no ud.nn ud.nc, .slice ud.eo ud.en ud.ec]), VL [qabs (qk), l] (K + 7 * K + 4), VC ((qabs (qk)) * l) (2 * (K + 7 * K + 4 + 1) + 1), VV (.bool true), VV (.bool true), VV (.agg #[.bool wa.s, .slice wa.no wa.nn wa.nc, .slice wa.eo wa.en wa.ec, .bool wb.s, .slice wb.no wb.nn wb.nc, .slice wb.eo wb.en wb.ec, .bool wc.s, .slice wc.no wc.nn wc.nc, .slice wc.eo wc.en wc.ec]), VV (.agg #[.bool k.s, .slice k.no k.nn k.nc, .slice k.eo k.en k.ec]), VV (.int .i64 (qsgn (qk))), VC (((((qsgn (qk)) : Int) : Rat) / ((1 : Int) : Rat))) (2), VV (.agg #[.bool ua.s, .slice ua.no ua.nn ua.nc, .slice ua.eo ua.en ua.ec, .bool ub.s, .slice ub.no ub.nn ub.nc, .slice ub.eo ub.en ub.ec, .bool uc.s, .slice uc.no uc.nn uc.nc, .slice uc.eo uc.en uc.ec]), VG (((((qsgn (qk)) : Int) : Rat) / ((1 : Int) : Rat)) * (1 / l * qa1)) (((((qsgn (qk)) : Int) : Rat) / ((1 : Int) : Rat)) * (1 / l * qa2)) (((((qsgn (qk)) : Int) : Rat) / ((1 : Int) : Rat)) * (1 / l * qa3)) (2 + (7 * K + 4)), VV (.bool true), VV (.bool true), VV (.bool true)] := ⟨VV.lasts _, VV.lasts _, VV.lasts _, VV.lasts _, VV.lasts _, VC.lasts _ _, VV.lasts _, VL.lasts _ _, VC.lasts _ _, VV.lasts _, VV.lasts _, VV.lasts _, VV.lasts _, VV.lasts _, VC.lasts _ _, VV.lasts _, VG.lasts _ _ _ _, VV.lasts _, VV.lasts _, VV.lasts _, trivial⟩
        refine wp_region_kahn 20 79 [([], [10]), ([(0, 59)], []), ([(1, 60)], []), ([], [9]), ([], [3]), ([(4, 63)], []), ([], [6]), ([(5, 64), (6, 65)], []), ([(7, 66)], []), ([(3, 62), (8, 67)], []), ([(9, 68)], []), ([], [8]), ([], [3]), ([(12, 71)], []), ([(13, 72)], []), ([], [5]), ([(14, 73), (15, 74)], []), ([(11, 70), (16, 75)], []), ([(10, 69), (17, 76)], []), ([(2, 61), (18, 77)], [])]
          (fun u => Below w8.heap.size w8 u) (fun u u' => Below u.heap.size u u')
          (Sp [VV (.bool true), VV (.bool false), VV (.bool false), VV (.agg #[.bool wd.s, .slice wd.no wd.nn wd.nc, .slice wd.eo wd.en wd.ec]), VV (.agg #[.bool k.s, .slice k.no k.nn k.nc, .slice k.eo k.en k.ec]), VC (qabs (qk)) (K), VV (.agg #[.bool ud.s, .slice ud.no ud.nn ud.nc, .slice ud.eo ud.en ud.ec]), VL [qabs (qk), l] (K + 7 * K + 4), VC ((qabs (qk)) * l) (2 * (K + 7 * K + 4 + 1) + 1), VV (.bool true), VV (.bool true), VV (.agg #[.bool wa.s, .slice wa.no wa.nn wa.nc, .slice wa.eo wa.en wa.ec, .bool wb.s, .slice wb.no wb.nn wb.nc, .slice wb.eo wb.en wb.ec, .bool wc.s, .slice wc.no wc.nn wc.nc, .slice wc.eo wc.en wc.ec]), VV (.agg #[.bool k.s, .slice k.no k.nn k.nc, .slice k.eo k.en k.ec]), VV (.int .i64 (qsgn (qk))), VC (((((qsgn (qk)) : Int) : Rat) / ((1 : Int) : Rat))) (2), VV (.agg #[.bool ua.s, .slice ua.no ua.nn ua.nc, .slice ua.eo ua.en ua.ec, .bool ub.s, .slice ub.no ub.nn ub.nc, .slice ub.eo ub.en ub.ec, .bool uc.s, .slice uc.no uc.nn uc.nc, .slice uc.eo uc.en uc.ec]), VG (((((qsgn (qk)) : Int) : Rat) / ((1 : Int) : Rat)) * (1 / l * qa1)) (((((qsgn (qk)) : Int) : Rat) / ((1 : Int) : Rat)) * (1 / l * qa2)) (((((qsgn (qk)) : Int) : Rat) / ((1 : Int) : Rat)) * (1 / l * qa3)) (2 + (7 * K + 4)), VV (.bool true), VV (.bool true), VV (.bool true)])
          (by kernel_rfl) rfl (by kernel_rfl) (Below.refl _ _).drew (fun k v u u' _ hg hs => Sp.lasts HLst k v u u' hg hs) ?_ ?_
        · clear HLst
          refine ⟨.inl ⟨by simp, fun ρ u hC hc hf hd ho => ?_⟩, .inl ⟨by simp, fun ρ u hC hc hf hd ho => ?_⟩, .inl ⟨by simp, fun ρ u hC hc hf hd ho => ?_⟩, .inl ⟨guard_of rfl fun _ _ h => h, fun ρ u hC hc hf hd ho => ?_⟩, .inl ⟨guard_of rfl fun _ _ h => h, fun ρ u hC hc hf hd ho => ?_⟩, .inl ⟨guard_of rfl fun _ _ h => h, fun ρ u hC hc hf hd ho => ?_⟩, .inl ⟨guard_of rfl fun _ _ h => h, fun ρ u hC hc hf hd ho => ?_⟩, .inl ⟨guard_of rfl fun _ _ h => h, fun ρ u hC hc hf hd ho => ?_⟩, .inl ⟨guard_of rfl fun _ _ h => h, fun ρ u hC hc hf hd ho => ?_⟩, .inl ⟨guard_of rfl fun _ _ h => h, fun ρ u hC hc hf hd ho => ?_⟩, .inl ⟨guard_of rfl fun _ _ h => h, fun ρ u hC hc hf hd ho => ?_⟩, .inl ⟨guard_of rfl fun _ _ h => h, fun ρ u hC hc hf hd ho => ?_⟩, .inl ⟨guard_of rfl fun _ _ h => h, fun ρ u hC hc hf hd ho => ?_⟩, .inl ⟨guard_of rfl fun _ _ h => h, fun ρ u hC hc hf hd ho => ?_⟩, .inl ⟨guard_of rfl fun _ _ h => h, fun ρ u hC hc hf hd ho => ?_⟩, .inl ⟨guard_of rfl fun _ _ h => h, fun ρ u hC hc hf hd ho => ?_⟩, .inl ⟨guard_of rfl fun _ _ h => h, fun ρ u hC hc hf hd ho => ?_⟩, .inl ⟨guard_of rfl fun _ _ h => h, fun ρ u hC hc hf hd ho => ?_⟩, .inl ⟨guard_of rfl fun _ _ h => h, fun ρ u hC hc hf hd ho => ?_⟩, .inl ⟨by simp, fun ρ u hC hc hf hd ho => ?_⟩, trivial⟩
          · have e10 : ρ (.tmp 10) = .bool true := ho 10 (by simp)
            refine Goes.pure (.bool true) ?_ ⟨hC, Below.refl _ _, rfl⟩
            unfold Goes
            go_simp
          · have e59 : ρ (.tmp 59) = .bool true := hd (0, 59) (by simp)
            refine Goes.pure (.bool false) ?_ ⟨hC, Below.refl _ _, rfl⟩
            unfold Goes
            go_simp
          · have e60 : ρ (.tmp 60) = .bool false := hd (1, 60) (by simp)
            refine Goes.pure (.bool false) ?_ ⟨hC, Below.refl _ _, rfl⟩
            unfold Goes
            go_simp
          · have e9 : ρ (.tmp 9) = .pointer (some ⟨gm, 0, none⟩) := ho 9 (by simp)
            obtain ⟨c0, c1, c2⟩ := (xm.later hC).cells
            refine Goes.pure (.agg #[.bool wd.s, .slice wd.no wd.nn wd.nc, .slice wd.eo wd.en wd.ec]) ?_ ⟨hC, Below.refl _ _, rfl⟩
            unfold Goes
            go_simp
          · have e3 : ρ (.tmp 3) = .pointer (some ⟨gk, 0, none⟩) := ho 3 (by simp)
            obtain ⟨c0, c1, c2⟩ := (xk.later hC).cells
            refine Goes.pure (.agg #[.bool k.s, .slice k.no k.nn k.nc, .slice k.eo k.en k.ec]) ?_ ⟨hC, Below.refl _ _, rfl⟩
            unfold Goes
            go_simp
          · have e63 : ρ (.tmp 63) = .agg #[.bool k.s, .slice k.no k.nn k.nc, .slice k.eo k.en k.ec] := hd (4, 63) (by simp)
            refine Goes.call 32 #[.agg #[.bool k.s, .slice k.no k.nn k.nc, .slice k.eo k.en k.ec]] (by go_simp) ?_
            refine Calls.mono (ratAbs_k (hk.later hC) (by omega) (by omega)) ?_
            rintro e u' ⟨s1, no1, nn1, nc1, eo1, en1, ec1, rfl, cq, lb⟩
            exact ⟨_, rfl, hC.trans (lb.mono hC.size), lb, ⟨s1, no1, nn1, nc1, eo1, en1, ec1, rfl, cq⟩⟩
          · have e6 : ρ (.tmp 6) = .pointer (some ⟨gl, 0, none⟩) := ho 6 (by simp)
            obtain ⟨c0, c1, c2⟩ := (xl.later hC).cells
            refine Goes.pure (.agg #[.bool ud.s, .slice ud.no ud.nn ud.nc, .slice ud.eo ud.en ud.ec]) ?_ ⟨hC, Below.refl _ _, rfl⟩
            unfold Goes
            go_simp
          · obtain ⟨s64, no64, nn64, nc64, eo64, en64, ec64, e64, k64⟩ : VC (qabs (qk)) (K) (ρ (.tmp 64)) u := hd (5, 64) (by simp)
            have e65 : ρ (.tmp 65) = .agg #[.bool ud.s, .slice ud.no ud.nn ud.nc, .slice ud.eo ud.en ud.ec] := hd (6, 65) (by simp)
            have lb : Below u.heap.size u (u.alloc (.cells #[.bool s64, .slice no64 nn64 nc64, .slice eo64 en64 ec64, .bool ud.s, .slice ud.no ud.nn ud.nc, .slice ud.eo ud.en ud.ec] 24)) := (Below.refl _ _).alloc (Nat.le_refl _) _
            refine Goes.run (.slice (some ⟨u.heap.size, 0, none⟩) 2 2) (u.alloc (.cells #[.bool s64, .slice no64 nn64 nc64, .slice eo64 en64 ec64, .bool ud.s, .slice ud.no ud.nn ud.nc, .slice ud.eo ud.en ud.ec] 24)) (by go_simp) ⟨hC.trans (lb.mono hC.size), lb, ?_⟩
            exact VL.made [⟨s64, no64, nn64, nc64, eo64, en64, ec64⟩, ⟨ud.s, ud.no, ud.nn, ud.nc, ud.eo, ud.en, ud.ec⟩] [qabs (qk), l] ⟨k64.rd.mono (by omega), (cl.later hC).rd.mono (by omega), trivial⟩ _ rfl 2 rfl
          · have k66 : VL [qabs (qk), l] (K + 7 * K + 4) (ρ (.tmp 66)) u := hd (7, 66) (by simp)
            refine Goes.call 29 #[ρ (.tmp 66)] (by go_simp) ?_
            refine Calls.mono (ratProduct_k k66 (by omega) (by simp only [List.length_cons, List.length_nil]; omega)) ?_
            rintro e u' ⟨s1, no1, nn1, nc1, eo1, en1, ec1, rfl, cq, lb⟩
            exact ⟨_, rfl, hC.trans (lb.mono hC.size), lb, ⟨s1, no1, nn1, nc1, eo1, en1, ec1, rfl, by rw [qprod2] at cq; exact cq.mono (by simp only [List.length_cons, List.length_nil]; omega)⟩⟩
          · have e62 : ρ (.tmp 62) = .agg #[.bool wd.s, .slice wd.no wd.nn wd.nc, .slice wd.eo wd.en wd.ec] := hd (3, 62) (by simp)
            obtain ⟨s67, no67, nn67, nc67, eo67, en67, ec67, e67, k67⟩ : VC ((qabs (qk)) * l) (2 * (K + 7 * K + 4 + 1) + 1) (ρ (.tmp 67)) u := hd (8, 67) (by simp)
            refine Goes.call 16 #[.agg #[.bool wd.s, .slice wd.no wd.nn wd.nc, .slice wd.eo wd.en wd.ec], .agg #[.bool s67, .slice no67 nn67 nc67, .slice eo67 en67 ec67]] (by go_simp) ?_
            refine Calls.mono (is3_any u wd.s wd.no wd.nn wd.nc wd.eo wd.en wd.ec s67 no67 nn67 nc67 eo67 en67 ec67 _ _ _ _ (cm.later hC).num (cm.later hC).den k67.num k67.den (by have := (cm.later hC).ln; omega) (by have := (cm.later hC).ld; omega) (by have := k67.ln; omega) (by have := k67.ld; omega)) ?_
            rintro e u' ⟨r, rfl, HR, lb⟩
            exact ⟨_, rfl, hC.trans (lb.mono hC.size), lb, by rw [HR.out.2 (cq_same (cm.later hC) k67 (by rw [hab]; grind))]; rfl⟩
          · have e68 : ρ (.tmp 68) = .bool true := hd (9, 68) (by simp)
            refine Goes.pure (.bool true) ?_ ⟨hC, Below.refl _ _, rfl⟩
            unfold Goes
            go_simp
          · have e8 : ρ (.tmp 8) = .pointer (some ⟨gw, 0, none⟩) := ho 8 (by simp)
            obtain ⟨c0, c1, c2⟩ := (xw.later hC).c0
            obtain ⟨c3, c4, c5⟩ := (xw.later hC).c1
            obtain ⟨c6, c7, c8⟩ := (xw.later hC).c2
            refine Goes.pure (.agg #[.bool wa.s, .slice wa.no wa.nn wa.nc, .slice wa.eo wa.en wa.ec, .bool wb.s, .slice wb.no wb.nn wb.nc, .slice wb.eo wb.en wb.ec, .bool wc.s, .slice wc.no wc.nn wc.nc, .slice wc.eo wc.en wc.ec]) ?_ ⟨hC, Below.refl _ _, rfl⟩
            unfold Goes
            go_simp
          · have e3 : ρ (.tmp 3) = .pointer (some ⟨gk, 0, none⟩) := ho 3 (by simp)
            obtain ⟨c0, c1, c2⟩ := (xk.later hC).cells
            refine Goes.pure (.agg #[.bool k.s, .slice k.no k.nn k.nc, .slice k.eo k.en k.ec]) ?_ ⟨hC, Below.refl _ _, rfl⟩
            unfold Goes
            go_simp
          · have e71 : ρ (.tmp 71) = .agg #[.bool k.s, .slice k.no k.nn k.nc, .slice k.eo k.en k.ec] := hd (12, 71) (by simp)
            refine Goes.call 26 #[.agg #[.bool k.s, .slice k.no k.nn k.nc, .slice k.eo k.en k.ec]] (by go_simp) ?_
            refine Calls.mono (ratSign_k (hk.later hC) (by omega)) ?_
            rintro e u' ⟨rfl, lb⟩
            exact ⟨_, rfl, hC.trans (lb.mono hC.size), lb, rfl⟩
          · have e72 : ρ (.tmp 72) = .int .i64 (qsgn (qk)) := hd (13, 72) (by simp)
            refine Goes.call 30 #[.int .i64 (qsgn (qk)), .int .i64 1] (by go_simp) ?_
            refine Calls.mono (ratOf_k (qsgn (qk)) 1 (by omega) (by omega) (by omega) (by omega)) ?_
            rintro e u' ⟨s1, no1, nn1, nc1, eo1, en1, ec1, rfl, cq, lb⟩
            exact ⟨_, rfl, hC.trans (lb.mono hC.size), lb, ⟨s1, no1, nn1, nc1, eo1, en1, ec1, rfl, cq⟩⟩
          · have e5 : ρ (.tmp 5) = .pointer (some ⟨gu, 0, none⟩) := ho 5 (by simp)
            obtain ⟨c0, c1, c2⟩ := (xu.later hC).c0
            obtain ⟨c3, c4, c5⟩ := (xu.later hC).c1
            obtain ⟨c6, c7, c8⟩ := (xu.later hC).c2
            refine Goes.pure (.agg #[.bool ua.s, .slice ua.no ua.nn ua.nc, .slice ua.eo ua.en ua.ec, .bool ub.s, .slice ub.no ub.nn ub.nc, .slice ub.eo ub.en ub.ec, .bool uc.s, .slice uc.no uc.nn uc.nc, .slice uc.eo uc.en uc.ec]) ?_ ⟨hC, Below.refl _ _, rfl⟩
            unfold Goes
            go_simp
          · obtain ⟨s73, no73, nn73, nc73, eo73, en73, ec73, e73, k73⟩ : VC (((((qsgn (qk)) : Int) : Rat) / ((1 : Int) : Rat))) (2) (ρ (.tmp 73)) u := hd (14, 73) (by simp)
            have e74 : ρ (.tmp 74) = .agg #[.bool ua.s, .slice ua.no ua.nn ua.nc, .slice ua.eo ua.en ua.ec, .bool ub.s, .slice ub.no ub.nn ub.nc, .slice ub.eo ub.en ub.ec, .bool uc.s, .slice uc.no uc.nn uc.nc, .slice uc.eo uc.en uc.ec] := hd (15, 74) (by simp)
            refine Goes.call 14 #[.agg #[.bool s73, .slice no73 nn73 nc73, .slice eo73 en73 ec73], .agg #[.bool ua.s, .slice ua.no ua.nn ua.nc, .slice ua.eo ua.en ua.ec, .bool ub.s, .slice ub.no ub.nn ub.nc, .slice ub.eo ub.en ub.ec, .bool uc.s, .slice uc.no uc.nn uc.nc, .slice uc.eo uc.en uc.ec]] (by go_simp) ?_
            refine Calls.mono (vscale_k (k := ⟨s73, no73, nn73, nc73, eo73, en73, ec73⟩) (k73.rd) ((cu.later hC).rd) (by omega) (by omega) (by omega)) ?_
            rintro e u' ⟨ra, rb, rc, rfl, cv, lb⟩
            exact ⟨_, rfl, hC.trans (lb.mono hC.size), lb, ⟨ra, rb, rc, rfl, cv⟩⟩
          · have e70 : ρ (.tmp 70) = .agg #[.bool wa.s, .slice wa.no wa.nn wa.nc, .slice wa.eo wa.en wa.ec, .bool wb.s, .slice wb.no wb.nn wb.nc, .slice wb.eo wb.en wb.ec, .bool wc.s, .slice wc.no wc.nn wc.nc, .slice wc.eo wc.en wc.ec] := hd (11, 70) (by simp)
            obtain ⟨ra75, rb75, rc75, e75, k75⟩ : VG (((((qsgn (qk)) : Int) : Rat) / ((1 : Int) : Rat)) * (1 / l * qa1)) (((((qsgn (qk)) : Int) : Rat) / ((1 : Int) : Rat)) * (1 / l * qa2)) (((((qsgn (qk)) : Int) : Rat) / ((1 : Int) : Rat)) * (1 / l * qa3)) (2 + (7 * K + 4)) (ρ (.tmp 75)) u := hd (16, 75) (by simp)
            refine Goes.call 9 #[.agg #[.bool wa.s, .slice wa.no wa.nn wa.nc, .slice wa.eo wa.en wa.ec, .bool wb.s, .slice wb.no wb.nn wb.nc, .slice wb.eo wb.en wb.ec, .bool wc.s, .slice wc.no wc.nn wc.nc, .slice wc.eo wc.en wc.ec], .agg #[.bool ra75.s, .slice ra75.no ra75.nn ra75.nc, .slice ra75.eo ra75.en ra75.ec, .bool rb75.s, .slice rb75.no rb75.nn rb75.nc, .slice rb75.eo rb75.en rb75.ec, .bool rc75.s, .slice rc75.no rc75.nn rc75.nc, .slice rc75.eo rc75.en rc75.ec]] (by go_simp) ?_
            refine Calls.mono (vis5 ((cw.later hC)) (k75) (by omega) (by omega)) ?_
            rintro e u' ⟨r, rfl, HR, lb⟩
            exact ⟨_, rfl, hC.trans (lb.mono hC.size), lb, by rw [HR.out.2 ⟨by rw [hs1]; exact unit_neg hk0 hl, by rw [hs1]; exact unit_neg hk0 hl, by rw [hs1]; exact unit_neg hk0 hl⟩]; rfl⟩
          · have e69 : ρ (.tmp 69) = .bool true := hd (10, 69) (by simp)
            have e76 : ρ (.tmp 76) = .bool true := hd (17, 76) (by simp)
            refine Goes.pure (.bool true) ?_ ⟨hC, Below.refl _ _, rfl⟩
            unfold Goes
            go_simp
          · have e61 : ρ (.tmp 61) = .bool false := hd (2, 61) (by simp)
            have e77 : ρ (.tmp 77) = .bool true := hd (18, 77) (by simp)
            refine Goes.pure (.bool true) ?_ ⟨hC, Below.refl _ _, rfl⟩
            unfold Goes
            go_simp
        · intro vs u hC hv
          have eR : vs 19 = .bool true := hv 19 (by omega)
          clear hv
          simp only [puts, List.take, List.drop, Act.put, List.setIfInBounds_toArray, List.set_cons_succ, List.set_cons_zero, Nat.reduceAdd, eR]
          go_wp2
          go_ret
          exact ⟨rfl, B8.trans (hC.mono B8.size)⟩
    · have hm : qk * l = 0 := by rw [hk0]; grind
      rw [if_pos hm] at o2
      simp only [if_pos hm] at o3
      rw [decide_eq_false (by simp [hm])] at o1
      rw [← hN] at o1 o2
      simp only [← hN] at o3
      refine (vunit_k cs.rd (by omega) (by omega)).mono ?_
      rintro e w6 ⟨wa, wb, wc, wd, rfl, cw, cm, lb⟩
      replace ha := ha.later lb
      replace hk := hk.later lb
      replace xa := xa.later lb
      replace xk := xk.later lb
      replace cu := cu.later lb
      replace cl := cl.later lb
      replace xu := xu.later lb
      replace xl := xl.later lb
      replace cs := cs.later lb
      have B6 := B5.trans (lb.mono B5.size)
      clear B5 lb
      rw [o1]
      rw [o2] at cm
      rw [o3, o3, o3] at cw
      obtain ⟨w7, hw, xw, xm, lb⟩ := bx_VR w6 wa wb wc wd
      obtain ⟨gw, hgw⟩ : ∃ gw, gw = w6.heap.size := ⟨_, rfl⟩
      rw [← hgw] at xw
      obtain ⟨gm, hgm⟩ : ∃ gm, gm = w6.heap.size + 1 := ⟨_, rfl⟩
      rw [← hgm] at xm
      replace ha := ha.later lb
      replace hk := hk.later lb
      replace xa := xa.later lb
      replace xk := xk.later lb
      replace cu := cu.later lb
      replace cl := cl.later lb
      replace xu := xu.later lb
      replace xl := xl.later lb
      replace cs := cs.later lb
      replace cw := cw.later lb
      replace cm := cm.later lb
      have B7 := B6.trans (lb.mono B6.size)
      clear B6 lb
      go_wp2
      rw [← hw, ← hgm, ← hgw]
      clear hw hgw hgm
      clear o1 o2 o3 e2 cs
      have d1 : (1 / l * qa1) * (1 / l * qa1) + (1 / l * qa2) * (1 / l * qa2) + (1 / l * qa3) * (1 / l * qa3) = 1 := unit_dot hl hn
      have HLst : Lst [VV (.agg #[.bool ua.s, .slice ua.no ua.nn ua.nc, .slice ua.eo ua.en ua.ec, .bool ub.s, .slice ub.no ub.nn ub.nc, .slice ub.eo ub.en ub.ec, .bool uc.s, .slice uc.no uc.nn uc.nc, .slice uc.eo uc.en uc.ec]), VV (.agg #[.bool ua.s, .slice ua.no ua.nn ua.nc, .slice ua.eo ua.en ua.ec, .bool ub.s, .slice ub.no ub.nn ub.nc, .slice ub.eo ub.en ub.ec, .bool uc.s, .slice uc.no uc.nn uc.nc, .slice uc.eo uc.en uc.ec]), VC ((1 / l * qa1) * (1 / l * qa1) + (1 / l * qa2) * (1 / l * qa2) + (1 / l * qa3) * (1 / l * qa3)) (3 * (7 * K + 4 + (7 * K + 4)) + 2), VC (1) (1), VV (.bool true), VV (.bool false), VV (.bool false), VV (.agg #[.bool ud.s, .slice ud.no ud.nn ud.nc, .slice ud.eo ud.en ud.ec]), VV (.agg #[.bool ua.s, .slice ua.no ua.nn ua.nc, .slice ua.eo ua.en ua.ec, .bool ub.s, .slice ub.no ub.nn ub.nc, .slice ub.eo ub.en ub.ec, .bool uc.s, .slice uc.no uc.nn uc.nc, .slice uc.eo uc.en uc.ec]), VG (l * (1 / l * qa1)) (l * (1 / l * qa2)) (l * (1 / l * qa3)) (7 * K + 4 + (7 * K + 4)), VV (.agg #[.bool a1.s, .slice a1.no a1.nn a1.nc, .slice a1.eo a1.en a1.ec, .bool a2.s, .slice a2.no a2.nn a2.nc, .slice a2.eo a2.en a2.ec, .bool a3.s, .slice a3.no a3.nn a3.nc, .slice a3.eo a3.en a3.ec]), VG (qa1) (qa2) (qa3) (K), VV (.bool true), VV (.bool false), VV (.bool false), VV (.bool false), VV (.agg #[.bool ud.s, .slice ud.no ud.nn ud.nc, .slice ud.eo ud.en ud.ec]), VV (.int .i64 (qsgn (l))), VV (.bool false), VV (.bool false), VV (.bool false), VV (.bool false), VV (.agg #[.bool k.s, .slice k.no k.nn k.nc, .slice k.eo k.en k.ec]), VV (.int .i64 (qsgn (qk))), VV (.bool false), VV (.bool false)] := ⟨VV.lasts _, VV.lasts _, VC.lasts _ _, VC.lasts _ _, VV.lasts _, VV.lasts _, VV.lasts _, VV.lasts _, VV.lasts _, VG.lasts _ _ _ _, VV.lasts _, VG.lasts _ _ _ _, VV.lasts _, VV.lasts _, VV.lasts _, VV.lasts _, VV.lasts _, VV.lasts _, VV.lasts _, VV.lasts _, VV.lasts _, VV.lasts _, VV.lasts _, VV.lasts _, VV.lasts _, VV.lasts _, trivial⟩
      refine wp_region_kahn 26 79 [([], [5]), ([], [5]), ([(0, 32), (1, 33)], []), ([], []), ([(2, 34), (3, 35)], []), ([(4, 36)], []), ([(5, 37)], []), ([], [6]), ([], [5]), ([(7, 39), (8, 40)], []), ([], [2]), ([(10, 42)], []), ([(9, 41), (11, 43)], []), ([(12, 44)], []), ([(6, 38), (13, 45)], []), ([(14, 46)], []), ([], [6]), ([(16, 48)], []), ([(17, 49)], []), ([(15, 47), (18, 50)], []), ([(19, 51)], []), ([], [10]), ([], [3]), ([(22, 54)], []), ([(23, 55)], []), ([(21, 53), (24, 56)], [])]
        (fun u => Below w7.heap.size w7 u) (fun u u' => Below u.heap.size u u')
        (Sp [VV (.agg #[.bool ua.s, .slice ua.no ua.nn ua.nc, .slice ua.eo ua.en ua.ec, .bool ub.s, .slice ub.no ub.nn ub.nc, .slice ub.eo ub.en ub.ec, .bool uc.s, .slice uc.no uc.nn uc.nc, .slice uc.eo uc.en uc.ec]), VV (.agg #[.bool ua.s, .slice ua.no ua.nn ua.nc, .slice ua.eo ua.en ua.ec, .bool ub.s, .slice ub.no ub.nn ub.nc, .slice ub.eo ub.en ub.ec, .bool uc.s, .slice uc.no uc.nn uc.nc, .slice uc.eo uc.en uc.ec]), VC ((1 / l * qa1) * (1 / l * qa1) + (1 / l * qa2) * (1 / l * qa2) + (1 / l * qa3) * (1 / l * qa3)) (3 * (7 * K + 4 + (7 * K + 4)) + 2), VC (1) (1), VV (.bool true), VV (.bool false), VV (.bool false), VV (.agg #[.bool ud.s, .slice ud.no ud.nn ud.nc, .slice ud.eo ud.en ud.ec]), VV (.agg #[.bool ua.s, .slice ua.no ua.nn ua.nc, .slice ua.eo ua.en ua.ec, .bool ub.s, .slice ub.no ub.nn ub.nc, .slice ub.eo ub.en ub.ec, .bool uc.s, .slice uc.no uc.nn uc.nc, .slice uc.eo uc.en uc.ec]), VG (l * (1 / l * qa1)) (l * (1 / l * qa2)) (l * (1 / l * qa3)) (7 * K + 4 + (7 * K + 4)), VV (.agg #[.bool a1.s, .slice a1.no a1.nn a1.nc, .slice a1.eo a1.en a1.ec, .bool a2.s, .slice a2.no a2.nn a2.nc, .slice a2.eo a2.en a2.ec, .bool a3.s, .slice a3.no a3.nn a3.nc, .slice a3.eo a3.en a3.ec]), VG (qa1) (qa2) (qa3) (K), VV (.bool true), VV (.bool false), VV (.bool false), VV (.bool false), VV (.agg #[.bool ud.s, .slice ud.no ud.nn ud.nc, .slice ud.eo ud.en ud.ec]), VV (.int .i64 (qsgn (l))), VV (.bool false), VV (.bool false), VV (.bool false), VV (.bool false), VV (.agg #[.bool k.s, .slice k.no k.nn k.nc, .slice k.eo k.en k.ec]), VV (.int .i64 (qsgn (qk))), VV (.bool false), VV (.bool false)])
        (by kernel_rfl) rfl (by kernel_rfl) (Below.refl _ _).drew (fun k v u u' _ hg hs => Sp.lasts HLst k v u u' hg hs) ?_ ?_
      · clear HLst
        refine ⟨.inl ⟨by simp, fun ρ u hC hc hf hd ho => ?_⟩, .inl ⟨by simp, fun ρ u hC hc hf hd ho => ?_⟩, .inl ⟨by simp, fun ρ u hC hc hf hd ho => ?_⟩, .inl ⟨by simp, fun ρ u hC hc hf hd ho => ?_⟩, .inl ⟨by simp, fun ρ u hC hc hf hd ho => ?_⟩, .inl ⟨by simp, fun ρ u hC hc hf hd ho => ?_⟩, .inl ⟨by simp, fun ρ u hC hc hf hd ho => ?_⟩, .inl ⟨guard_of rfl fun _ _ h => h, fun ρ u hC hc hf hd ho => ?_⟩, .inl ⟨guard_of rfl fun _ _ h => h, fun ρ u hC hc hf hd ho => ?_⟩, .inl ⟨guard_of rfl fun _ _ h => h, fun ρ u hC hc hf hd ho => ?_⟩, .inl ⟨guard_of rfl fun _ _ h => h, fun ρ u hC hc hf hd ho => ?_⟩, .inl ⟨guard_of rfl fun _ _ h => h, fun ρ u hC hc hf hd ho => ?_⟩, .inl ⟨guard_of rfl fun _ _ h => h, fun ρ u hC hc hf hd ho => ?_⟩, .inl ⟨guard_of rfl fun _ _ h => h, fun ρ u hC hc hf hd ho => ?_⟩, .inl ⟨by simp, fun ρ u hC hc hf hd ho => ?_⟩, .inl ⟨by simp, fun ρ u hC hc hf hd ho => ?_⟩, .inl ⟨guard_of rfl fun _ _ h => h, fun ρ u hC hc hf hd ho => ?_⟩, .inl ⟨guard_of rfl fun _ _ h => h, fun ρ u hC hc hf hd ho => ?_⟩, .inl ⟨guard_of rfl fun _ _ h => h, fun ρ u hC hc hf hd ho => ?_⟩, .inl ⟨by simp, fun ρ u hC hc hf hd ho => ?_⟩, .inl ⟨by simp, fun ρ u hC hc hf hd ho => ?_⟩, .inl ⟨guard_of rfl fun _ _ h => h, fun ρ u hC hc hf hd ho => ?_⟩, .inl ⟨guard_of rfl fun _ _ h => h, fun ρ u hC hc hf hd ho => ?_⟩, .inl ⟨guard_of rfl fun _ _ h => h, fun ρ u hC hc hf hd ho => ?_⟩, .inl ⟨guard_of rfl fun _ _ h => h, fun ρ u hC hc hf hd ho => ?_⟩, .inl ⟨guard_of rfl fun _ _ h => h, fun ρ u hC hc hf hd ho => ?_⟩, trivial⟩
        · have e5 : ρ (.tmp 5) = .pointer (some ⟨gu, 0, none⟩) := ho 5 (by simp)
          obtain ⟨c0, c1, c2⟩ := (xu.later hC).c0
          obtain ⟨c3, c4, c5⟩ := (xu.later hC).c1
          obtain ⟨c6, c7, c8⟩ := (xu.later hC).c2
          refine Goes.pure (.agg #[.bool ua.s, .slice ua.no ua.nn ua.nc, .slice ua.eo ua.en ua.ec, .bool ub.s, .slice ub.no ub.nn ub.nc, .slice ub.eo ub.en ub.ec, .bool uc.s, .slice uc.no uc.nn uc.nc, .slice uc.eo uc.en uc.ec]) ?_ ⟨hC, Below.refl _ _, rfl⟩
          unfold Goes
          go_simp
        · have e5 : ρ (.tmp 5) = .pointer (some ⟨gu, 0, none⟩) := ho 5 (by simp)
          obtain ⟨c0, c1, c2⟩ := (xu.later hC).c0
          obtain ⟨c3, c4, c5⟩ := (xu.later hC).c1
          obtain ⟨c6, c7, c8⟩ := (xu.later hC).c2
          refine Goes.pure (.agg #[.bool ua.s, .slice ua.no ua.nn ua.nc, .slice ua.eo ua.en ua.ec, .bool ub.s, .slice ub.no ub.nn ub.nc, .slice ub.eo ub.en ub.ec, .bool uc.s, .slice uc.no uc.nn uc.nc, .slice uc.eo uc.en uc.ec]) ?_ ⟨hC, Below.refl _ _, rfl⟩
          unfold Goes
          go_simp
        · have e32 : ρ (.tmp 32) = .agg #[.bool ua.s, .slice ua.no ua.nn ua.nc, .slice ua.eo ua.en ua.ec, .bool ub.s, .slice ub.no ub.nn ub.nc, .slice ub.eo ub.en ub.ec, .bool uc.s, .slice uc.no uc.nn uc.nc, .slice uc.eo uc.en uc.ec] := hd (0, 32) (by simp)
          have e33 : ρ (.tmp 33) = .agg #[.bool ua.s, .slice ua.no ua.nn ua.nc, .slice ua.eo ua.en ua.ec, .bool ub.s, .slice ub.no ub.nn ub.nc, .slice ub.eo ub.en ub.ec, .bool uc.s, .slice uc.no uc.nn uc.nc, .slice uc.eo uc.en uc.ec] := hd (1, 33) (by simp)
          refine Goes.call 17 #[.agg #[.bool ua.s, .slice ua.no ua.nn ua.nc, .slice ua.eo ua.en ua.ec, .bool ub.s, .slice ub.no ub.nn ub.nc, .slice ub.eo ub.en ub.ec, .bool uc.s, .slice uc.no uc.nn uc.nc, .slice uc.eo uc.en uc.ec], .agg #[.bool ua.s, .slice ua.no ua.nn ua.nc, .slice ua.eo ua.en ua.ec, .bool ub.s, .slice ub.no ub.nn ub.nc, .slice ub.eo ub.en ub.ec, .bool uc.s, .slice uc.no uc.nn uc.nc, .slice uc.eo uc.en uc.ec]] (by go_simp) ?_
          refine Calls.mono (vdot_k ((cu.later hC).rd) ((cu.later hC).rd) (by omega) (by omega) (by omega)) ?_
          rintro e u' ⟨s1, no1, nn1, nc1, eo1, en1, ec1, rfl, cq, lb⟩
          exact ⟨_, rfl, hC.trans (lb.mono hC.size), lb, ⟨s1, no1, nn1, nc1, eo1, en1, ec1, rfl, cq⟩⟩
        · refine Goes.call 31 #[] (by go_simp) ?_
          refine Calls.mono (one3_any u) ?_
          rintro e u' ⟨s1, no1, nn1, nc1, eo1, en1, ec1, rfl, cq, lb⟩
          exact ⟨_, rfl, hC.trans (lb.mono hC.size), lb, ⟨s1, no1, nn1, nc1, eo1, en1, ec1, rfl, cq⟩⟩
        · obtain ⟨s34, no34, nn34, nc34, eo34, en34, ec34, e34, k34⟩ : VC ((1 / l * qa1) * (1 / l * qa1) + (1 / l * qa2) * (1 / l * qa2) + (1 / l * qa3) * (1 / l * qa3)) (3 * (7 * K + 4 + (7 * K + 4)) + 2) (ρ (.tmp 34)) u := hd (2, 34) (by simp)
          obtain ⟨s35, no35, nn35, nc35, eo35, en35, ec35, e35, k35⟩ : VC (1) (1) (ρ (.tmp 35)) u := hd (3, 35) (by simp)
          refine Goes.call 16 #[.agg #[.bool s34, .slice no34 nn34 nc34, .slice eo34 en34 ec34], .agg #[.bool s35, .slice no35 nn35 nc35, .slice eo35 en35 ec35]] (by go_simp) ?_
          refine Calls.mono (is3_any u s34 no34 nn34 nc34 eo34 en34 ec34 s35 no35 nn35 nc35 eo35 en35 ec35 _ _ _ _ k34.num k34.den k35.num k35.den (by have := k34.ln; omega) (by have := k34.ld; omega) (by have := k35.ln; omega) (by have := k35.ld; omega)) ?_
          rintro e u' ⟨r, rfl, HR, lb⟩
          exact ⟨_, rfl, hC.trans (lb.mono hC.size), lb, by rw [HR.out.2 (cq_same k34 k35 (d1))]; rfl⟩
        · have e36 : ρ (.tmp 36) = .bool true := hd (4, 36) (by simp)
          refine Goes.pure (.bool false) ?_ ⟨hC, Below.refl _ _, rfl⟩
          unfold Goes
          go_simp
        · have e37 : ρ (.tmp 37) = .bool false := hd (5, 37) (by simp)
          refine Goes.pure (.bool false) ?_ ⟨hC, Below.refl _ _, rfl⟩
          unfold Goes
          go_simp
        · have e6 : ρ (.tmp 6) = .pointer (some ⟨gl, 0, none⟩) := ho 6 (by simp)
          obtain ⟨c0, c1, c2⟩ := (xl.later hC).cells
          refine Goes.pure (.agg #[.bool ud.s, .slice ud.no ud.nn ud.nc, .slice ud.eo ud.en ud.ec]) ?_ ⟨hC, Below.refl _ _, rfl⟩
          unfold Goes
          go_simp
        · have e5 : ρ (.tmp 5) = .pointer (some ⟨gu, 0, none⟩) := ho 5 (by simp)
          obtain ⟨c0, c1, c2⟩ := (xu.later hC).c0
          obtain ⟨c3, c4, c5⟩ := (xu.later hC).c1
          obtain ⟨c6, c7, c8⟩ := (xu.later hC).c2
          refine Goes.pure (.agg #[.bool ua.s, .slice ua.no ua.nn ua.nc, .slice ua.eo ua.en ua.ec, .bool ub.s, .slice ub.no ub.nn ub.nc, .slice ub.eo ub.en ub.ec, .bool uc.s, .slice uc.no uc.nn uc.nc, .slice uc.eo uc.en uc.ec]) ?_ ⟨hC, Below.refl _ _, rfl⟩
          unfold Goes
          go_simp
        · have e39 : ρ (.tmp 39) = .agg #[.bool ud.s, .slice ud.no ud.nn ud.nc, .slice ud.eo ud.en ud.ec] := hd (7, 39) (by simp)
          have e40 : ρ (.tmp 40) = .agg #[.bool ua.s, .slice ua.no ua.nn ua.nc, .slice ua.eo ua.en ua.ec, .bool ub.s, .slice ub.no ub.nn ub.nc, .slice ub.eo ub.en ub.ec, .bool uc.s, .slice uc.no uc.nn uc.nc, .slice uc.eo uc.en uc.ec] := hd (8, 40) (by simp)
          refine Goes.call 14 #[.agg #[.bool ud.s, .slice ud.no ud.nn ud.nc, .slice ud.eo ud.en ud.ec], .agg #[.bool ua.s, .slice ua.no ua.nn ua.nc, .slice ua.eo ua.en ua.ec, .bool ub.s, .slice ub.no ub.nn ub.nc, .slice ub.eo ub.en ub.ec, .bool uc.s, .slice uc.no uc.nn uc.nc, .slice uc.eo uc.en uc.ec]] (by go_simp) ?_
          refine Calls.mono (vscale_k (k := ⟨ud.s, ud.no, ud.nn, ud.nc, ud.eo, ud.en, ud.ec⟩) ((cl.later hC).rd) ((cu.later hC).rd) (by omega) (by omega) (by omega)) ?_
          rintro e u' ⟨ra, rb, rc, rfl, cv, lb⟩
          exact ⟨_, rfl, hC.trans (lb.mono hC.size), lb, ⟨ra, rb, rc, rfl, cv⟩⟩
        · have e2 : ρ (.tmp 2) = .pointer (some ⟨ga, 0, none⟩) := ho 2 (by simp)
          obtain ⟨c0, c1, c2⟩ := (xa.later hC).c0
          obtain ⟨c3, c4, c5⟩ := (xa.later hC).c1
          obtain ⟨c6, c7, c8⟩ := (xa.later hC).c2
          refine Goes.pure (.agg #[.bool a1.s, .slice a1.no a1.nn a1.nc, .slice a1.eo a1.en a1.ec, .bool a2.s, .slice a2.no a2.nn a2.nc, .slice a2.eo a2.en a2.ec, .bool a3.s, .slice a3.no a3.nn a3.nc, .slice a3.eo a3.en a3.ec]) ?_ ⟨hC, Below.refl _ _, rfl⟩
          unfold Goes
          go_simp
        · have e42 : ρ (.tmp 42) = .agg #[.bool a1.s, .slice a1.no a1.nn a1.nc, .slice a1.eo a1.en a1.ec, .bool a2.s, .slice a2.no a2.nn a2.nc, .slice a2.eo a2.en a2.ec, .bool a3.s, .slice a3.no a3.nn a3.nc, .slice a3.eo a3.en a3.ec] := hd (10, 42) (by simp)
          refine Goes.call 21 #[.agg #[.bool a1.s, .slice a1.no a1.nn a1.nc, .slice a1.eo a1.en a1.ec, .bool a2.s, .slice a2.no a2.nn a2.nc, .slice a2.eo a2.en a2.ec, .bool a3.s, .slice a3.no a3.nn a3.nc, .slice a3.eo a3.en a3.ec]] (by go_simp) ?_
          refine Calls.mono (vread_k (ha.later hC) (by omega) (by omega)) ?_
          rintro e u' ⟨ra, rb, rc, rfl, cv, lb⟩
          exact ⟨_, rfl, hC.trans (lb.mono hC.size), lb, ⟨ra, rb, rc, rfl, cv⟩⟩
        · obtain ⟨ra41, rb41, rc41, e41, k41⟩ : VG (l * (1 / l * qa1)) (l * (1 / l * qa2)) (l * (1 / l * qa3)) (7 * K + 4 + (7 * K + 4)) (ρ (.tmp 41)) u := hd (9, 41) (by simp)
          obtain ⟨ra43, rb43, rc43, e43, k43⟩ : VG (qa1) (qa2) (qa3) (K) (ρ (.tmp 43)) u := hd (11, 43) (by simp)
          refine Goes.call 9 #[.agg #[.bool ra41.s, .slice ra41.no ra41.nn ra41.nc, .slice ra41.eo ra41.en ra41.ec, .bool rb41.s, .slice rb41.no rb41.nn rb41.nc, .slice rb41.eo rb41.en rb41.ec, .bool rc41.s, .slice rc41.no rc41.nn rc41.nc, .slice rc41.eo rc41.en rc41.ec], .agg #[.bool ra43.s, .slice ra43.no ra43.nn ra43.nc, .slice ra43.eo ra43.en ra43.ec, .bool rb43.s, .slice rb43.no rb43.nn rb43.nc, .slice rb43.eo rb43.en rb43.ec, .bool rc43.s, .slice rc43.no rc43.nn rc43.nc, .slice rc43.eo rc43.en rc43.ec]] (by go_simp) ?_
          refine Calls.mono (vis5 (k41) (k43) (by omega) (by omega)) ?_
          rintro e u' ⟨r, rfl, HR, lb⟩
          exact ⟨_, rfl, hC.trans (lb.mono hC.size), lb, by rw [HR.out.2 ⟨unit_back hl, unit_back hl, unit_back hl⟩]; rfl⟩
        · have e44 : ρ (.tmp 44) = .bool true := hd (12, 44) (by simp)
          refine Goes.pure (.bool false) ?_ ⟨hC, Below.refl _ _, rfl⟩
          unfold Goes
          go_simp
        · have e38 : ρ (.tmp 38) = .bool false := hd (6, 38) (by simp)
          have e45 : ρ (.tmp 45) = .bool false := hd (13, 45) (by simp)
          refine Goes.pure (.bool false) ?_ ⟨hC, Below.refl _ _, rfl⟩
          unfold Goes
          go_simp
        · have e46 : ρ (.tmp 46) = .bool false := hd (14, 46) (by simp)
          refine Goes.pure (.bool false) ?_ ⟨hC, Below.refl _ _, rfl⟩
          unfold Goes
          go_simp
        · have e6 : ρ (.tmp 6) = .pointer (some ⟨gl, 0, none⟩) := ho 6 (by simp)
          obtain ⟨c0, c1, c2⟩ := (xl.later hC).cells
          refine Goes.pure (.agg #[.bool ud.s, .slice ud.no ud.nn ud.nc, .slice ud.eo ud.en ud.ec]) ?_ ⟨hC, Below.refl _ _, rfl⟩
          unfold Goes
          go_simp
        · have e48 : ρ (.tmp 48) = .agg #[.bool ud.s, .slice ud.no ud.nn ud.nc, .slice ud.eo ud.en ud.ec] := hd (16, 48) (by simp)
          refine Goes.call 26 #[.agg #[.bool ud.s, .slice ud.no ud.nn ud.nc, .slice ud.eo ud.en ud.ec]] (by go_simp) ?_
          refine Calls.mono (ratSign_k (cl.later hC).rd (by omega)) ?_
          rintro e u' ⟨rfl, lb⟩
          exact ⟨_, rfl, hC.trans (lb.mono hC.size), lb, rfl⟩
        · have e49 : ρ (.tmp 49) = .int .i64 (qsgn (l)) := hd (17, 49) (by simp)
          rw [hsl] at e49
          refine Goes.pure (.bool false) ?_ ⟨hC, Below.refl _ _, rfl⟩
          unfold Goes
          go_simp
        · have e47 : ρ (.tmp 47) = .bool false := hd (15, 47) (by simp)
          have e50 : ρ (.tmp 50) = .bool false := hd (18, 50) (by simp)
          refine Goes.pure (.bool false) ?_ ⟨hC, Below.refl _ _, rfl⟩
          unfold Goes
          go_simp
        · have e51 : ρ (.tmp 51) = .bool false := hd (19, 51) (by simp)
          refine Goes.pure (.bool false) ?_ ⟨hC, Below.refl _ _, rfl⟩
          unfold Goes
          go_simp
        · have e10 : ρ (.tmp 10) = .bool false := ho 10 (by simp)
          refine Goes.pure (.bool false) ?_ ⟨hC, Below.refl _ _, rfl⟩
          unfold Goes
          go_simp
        · have e3 : ρ (.tmp 3) = .pointer (some ⟨gk, 0, none⟩) := ho 3 (by simp)
          obtain ⟨c0, c1, c2⟩ := (xk.later hC).cells
          refine Goes.pure (.agg #[.bool k.s, .slice k.no k.nn k.nc, .slice k.eo k.en k.ec]) ?_ ⟨hC, Below.refl _ _, rfl⟩
          unfold Goes
          go_simp
        · have e54 : ρ (.tmp 54) = .agg #[.bool k.s, .slice k.no k.nn k.nc, .slice k.eo k.en k.ec] := hd (22, 54) (by simp)
          refine Goes.call 26 #[.agg #[.bool k.s, .slice k.no k.nn k.nc, .slice k.eo k.en k.ec]] (by go_simp) ?_
          refine Calls.mono (ratSign_k (hk.later hC) (by omega)) ?_
          rintro e u' ⟨rfl, lb⟩
          exact ⟨_, rfl, hC.trans (lb.mono hC.size), lb, rfl⟩
        · have e55 : ρ (.tmp 55) = .int .i64 (qsgn (qk)) := hd (23, 55) (by simp)
          rw [hsk] at e55
          refine Goes.pure (.bool false) ?_ ⟨hC, Below.refl _ _, rfl⟩
          unfold Goes
          go_simp
        · have e53 : ρ (.tmp 53) = .bool false := hd (21, 53) (by simp)
          have e56 : ρ (.tmp 56) = .bool false := hd (24, 56) (by simp)
          refine Goes.pure (.bool false) ?_ ⟨hC, Below.refl _ _, rfl⟩
          unfold Goes
          go_simp
      · intro vs u lb hv
        have eR : vs 20 = .bool false := hv 20 (by omega)
        have eS : vs 25 = .bool false := hv 25 (by omega)
        clear hv
        simp only [puts, List.take, List.drop, Act.put, List.setIfInBounds_toArray, List.set_cons_succ, List.set_cons_zero, Nat.reduceAdd, eR, eS]
        clear eR eS
        go_wp2
        obtain ⟨w8, rfl⟩ : ∃ w8, w8 = u := ⟨_, rfl⟩
        replace ha := ha.later lb
        replace hk := hk.later lb
        replace xa := xa.later lb
        replace xk := xk.later lb
        replace cu := cu.later lb
        replace cl := cl.later lb
        replace xu := xu.later lb
        replace xl := xl.later lb
        replace cw := cw.later lb
        replace cm := cm.later lb
        replace xw := xw.later lb
        replace xm := xm.later lb
        have B8 := B7.trans (lb.mono B7.size)
        clear B7 lb
        have hs1 : (((qsgn (qk)) : Int) : Rat) / ((1 : Int) : Rat) = 0 := by rw [hsk]; decide +kernel
        have HLst : Lst [VV (.bool false), VV (.bool true), VV (.bool true), VV (undef), VV (undef), VV (undef), VV (undef), VV (undef), VV (undef), VV (undef), VV (undef), VV (undef), VV (undef), VV (undef), VV (undef), VV (undef), VV (undef), VV (undef), VV (undef), VV (.bool true)] := ⟨VV.lasts _, VV.lasts _, VV.lasts _, VV.lasts _, VV.lasts _, VV.lasts _, VV.lasts _, VV.lasts _, VV.lasts _, VV.lasts _, VV.lasts _, VV.lasts _, VV.lasts _, VV.lasts _, VV.lasts _, VV.lasts _, VV.lasts _, VV.lasts _, VV.lasts _, VV.lasts _, trivial⟩
        refine wp_region_kahn 20 79 [([], [10]), ([(0, 59)], []), ([(1, 60)], []), ([], [9]), ([], [3]), ([(4, 63)], []), ([], [6]), ([(5, 64), (6, 65)], []), ([(7, 66)], []), ([(3, 62), (8, 67)], []), ([(9, 68)], []), ([], [8]), ([], [3]), ([(12, 71)], []), ([(13, 72)], []), ([], [5]), ([(14, 73), (15, 74)], []), ([(11, 70), (16, 75)], []), ([(10, 69), (17, 76)], []), ([(2, 61), (18, 77)], [])]
          (fun u => Below w8.heap.size w8 u) (fun u u' => Below u.heap.size u u')
          (Sp [VV (.bool false), VV (.bool true), VV (.bool true), VV (undef), VV (undef), VV (undef), VV (undef), VV (undef), VV (undef), VV (undef), VV (undef), VV (undef), VV (undef), VV (undef), VV (undef), VV (undef), VV (undef), VV (undef), VV (undef), VV (.bool true)])
          (by kernel_rfl) rfl (by kernel_rfl) (Below.refl _ _).drew (fun k v u u' _ hg hs => Sp.lasts HLst k v u u' hg hs) ?_ ?_
        · clear HLst
          refine ⟨.inl ⟨by simp, fun ρ u hC hc hf hd ho => ?_⟩, .inl ⟨by simp, fun ρ u hC hc hf hd ho => ?_⟩, .inl ⟨by simp, fun ρ u hC hc hf hd ho => ?_⟩, .inr ⟨2, false, rfl, fun v u h => by have h' : v = .bool true := h; rw [h']; simp, fun _ _ => rfl⟩, .inr ⟨2, false, rfl, fun v u h => by have h' : v = .bool true := h; rw [h']; simp, fun _ _ => rfl⟩, .inr ⟨2, false, rfl, fun v u h => by have h' : v = .bool true := h; rw [h']; simp, fun _ _ => rfl⟩, .inr ⟨2, false, rfl, fun v u h => by have h' : v = .bool true := h; rw [h']; simp, fun _ _ => rfl⟩, .inr ⟨2, false, rfl, fun v u h => by have h' : v = .bool true := h; rw [h']; simp, fun _ _ => rfl⟩, .inr ⟨2, false, rfl, fun v u h => by have h' : v = .bool true := h; rw [h']; simp, fun _ _ => rfl⟩, .inr ⟨2, false, rfl, fun v u h => by have h' : v = .bool true := h; rw [h']; simp, fun _ _ => rfl⟩, .inr ⟨2, false, rfl, fun v u h => by have h' : v = .bool true := h; rw [h']; simp, fun _ _ => rfl⟩, .inr ⟨10, true, rfl, fun v u h => by have h' : v = undef := h; rw [h']; exact (fun c => by unfold undef at c; simp at c), fun _ _ => rfl⟩, .inr ⟨10, true, rfl, fun v u h => by have h' : v = undef := h; rw [h']; exact (fun c => by unfold undef at c; simp at c), fun _ _ => rfl⟩, .inr ⟨10, true, rfl, fun v u h => by have h' : v = undef := h; rw [h']; exact (fun c => by unfold undef at c; simp at c), fun _ _ => rfl⟩, .inr ⟨10, true, rfl, fun v u h => by have h' : v = undef := h; rw [h']; exact (fun c => by unfold undef at c; simp at c), fun _ _ => rfl⟩, .inr ⟨10, true, rfl, fun v u h => by have h' : v = undef := h; rw [h']; exact (fun c => by unfold undef at c; simp at c), fun _ _ => rfl⟩, .inr ⟨10, true, rfl, fun v u h => by have h' : v = undef := h; rw [h']; exact (fun c => by unfold undef at c; simp at c), fun _ _ => rfl⟩, .inr ⟨10, true, rfl, fun v u h => by have h' : v = undef := h; rw [h']; exact (fun c => by unfold undef at c; simp at c), fun _ _ => rfl⟩, .inr ⟨2, false, rfl, fun v u h => by have h' : v = .bool true := h; rw [h']; simp, fun _ _ => rfl⟩, .inl ⟨by simp, fun ρ u hC hc hf hd ho => ?_⟩, trivial⟩
          · have e10 : ρ (.tmp 10) = .bool false := ho 10 (by simp)
            refine Goes.pure (.bool false) ?_ ⟨hC, Below.refl _ _, rfl⟩
            unfold Goes
            go_simp
          · have e59 : ρ (.tmp 59) = .bool false := hd (0, 59) (by simp)
            refine Goes.pure (.bool true) ?_ ⟨hC, Below.refl _ _, rfl⟩
            unfold Goes
            go_simp
          · have e60 : ρ (.tmp 60) = .bool true := hd (1, 60) (by simp)
            refine Goes.pure (.bool true) ?_ ⟨hC, Below.refl _ _, rfl⟩
            unfold Goes
            go_simp
          · have e61 : ρ (.tmp 61) = .bool true := hd (2, 61) (by simp)
            have e77 : ρ (.tmp 77) = undef := hd (18, 77) (by simp)
            refine Goes.pure (.bool true) ?_ ⟨hC, Below.refl _ _, rfl⟩
            unfold Goes
            go_simp
        · intro vs u hC hv
          have eR : vs 19 = .bool true := hv 19 (by omega)
          clear hv
          simp only [puts, List.take, List.drop, Act.put, List.setIfInBounds_toArray, List.set_cons_succ, List.set_cons_zero, Nat.reduceAdd, eR]
          go_wp2
          go_ret
          exact ⟨rfl, B8.trans (hC.mono B8.size)⟩
    · have hm : 0 < qk * l := by clear e2; exact Rat.mul_pos hk0 hl
      have hq : qabs (qk * l) = qk * l := by rcases qabs_cases (qk * l) with ⟨_, h, e⟩ | ⟨_, h, e⟩ | ⟨_, h, e⟩ <;> first | exact e | (exfalso; clear e2 o3; grind)
      rw [if_neg (by grind), hq] at o2
      simp only [if_neg (show ¬ qk * l = 0 by grind), hq] at o3
      rw [decide_eq_true (by grind)] at o1
      rw [← hN] at o1 o2
      simp only [← hN] at o3
      refine (vunit_k cs.rd (by omega) (by omega)).mono ?_
      rintro e w6 ⟨wa, wb, wc, wd, rfl, cw, cm, lb⟩
      replace ha := ha.later lb
      replace hk := hk.later lb
      replace xa := xa.later lb
      replace xk := xk.later lb
      replace cu := cu.later lb
      replace cl := cl.later lb
      replace xu := xu.later lb
      replace xl := xl.later lb
      replace cs := cs.later lb
      have B6 := B5.trans (lb.mono B5.size)
      clear B5 lb
      rw [o1]
      rw [o2] at cm
      rw [o3, o3, o3] at cw
      obtain ⟨w7, hw, xw, xm, lb⟩ := bx_VR w6 wa wb wc wd
      obtain ⟨gw, hgw⟩ : ∃ gw, gw = w6.heap.size := ⟨_, rfl⟩
      rw [← hgw] at xw
      obtain ⟨gm, hgm⟩ : ∃ gm, gm = w6.heap.size + 1 := ⟨_, rfl⟩
      rw [← hgm] at xm
      replace ha := ha.later lb
      replace hk := hk.later lb
      replace xa := xa.later lb
      replace xk := xk.later lb
      replace cu := cu.later lb
      replace cl := cl.later lb
      replace xu := xu.later lb
      replace xl := xl.later lb
      replace cs := cs.later lb
      replace cw := cw.later lb
      replace cm := cm.later lb
      have B7 := B6.trans (lb.mono B6.size)
      clear B6 lb
      go_wp2
      rw [← hw, ← hgm, ← hgw]
      clear hw hgw hgm
      clear o1 o2 o3 e2 cs
      have d1 : (1 / l * qa1) * (1 / l * qa1) + (1 / l * qa2) * (1 / l * qa2) + (1 / l * qa3) * (1 / l * qa3) = 1 := unit_dot hl hn
      have HLst : Lst [VV (.agg #[.bool ua.s, .slice ua.no ua.nn ua.nc, .slice ua.eo ua.en ua.ec, .bool ub.s, .slice ub.no ub.nn ub.nc, .slice ub.eo ub.en ub.ec, .bool uc.s, .slice uc.no uc.nn uc.nc, .slice uc.eo uc.en uc.ec]), VV (.agg #[.bool ua.s, .slice ua.no ua.nn ua.nc, .slice ua.eo ua.en ua.ec, .bool ub.s, .slice ub.no ub.nn ub.nc, .slice ub.eo ub.en ub.ec, .bool uc.s, .slice uc.no uc.nn uc.nc, .slice uc.eo uc.en uc.ec]), VC ((1 / l * qa1) * (1 / l * qa1) + (1 / l * qa2) * (1 / l * qa2) + (1 / l * qa3) * (1 / l * qa3)) (3 * (7 * K + 4 + (7 * K + 4)) + 2), VC (1) (1), VV (.bool true), VV (.bool false), VV (.bool false), VV (.agg #[.bool ud.s, .slice ud.no ud.nn ud.nc, .slice ud.eo ud.en ud.ec]), VV (.agg #[.bool ua.s, .slice ua.no ua.nn ua.nc, .slice ua.eo ua.en ua.ec, .bool ub.s, .slice ub.no ub.nn ub.nc, .slice ub.eo ub.en ub.ec, .bool uc.s, .slice uc.no uc.nn uc.nc, .slice uc.eo uc.en uc.ec]), VG (l * (1 / l * qa1)) (l * (1 / l * qa2)) (l * (1 / l * qa3)) (7 * K + 4 + (7 * K + 4)), VV (.agg #[.bool a1.s, .slice a1.no a1.nn a1.nc, .slice a1.eo a1.en a1.ec, .bool a2.s, .slice a2.no a2.nn a2.nc, .slice a2.eo a2.en a2.ec, .bool a3.s, .slice a3.no a3.nn a3.nc, .slice a3.eo a3.en a3.ec]), VG (qa1) (qa2) (qa3) (K), VV (.bool true), VV (.bool false), VV (.bool false), VV (.bool false), VV (.agg #[.bool ud.s, .slice ud.no ud.nn ud.nc, .slice ud.eo ud.en ud.ec]), VV (.int .i64 (qsgn (l))), VV (.bool false), VV (.bool false), VV (.bool false), VV (.bool true), VV (.agg #[.bool k.s, .slice k.no k.nn k.nc, .slice k.eo k.en k.ec]), VV (.int .i64 (qsgn (qk))), VV (.bool true), VV (.bool false)] := ⟨VV.lasts _, VV.lasts _, VC.lasts _ _, VC.lasts _ _, VV.lasts _, VV.lasts _, VV.lasts _, VV.lasts _, VV.lasts _, VG.lasts _ _ _ _, VV.lasts _, VG.lasts _ _ _ _, VV.lasts _, VV.lasts _, VV.lasts _, VV.lasts _, VV.lasts _, VV.lasts _, VV.lasts _, VV.lasts _, VV.lasts _, VV.lasts _, VV.lasts _, VV.lasts _, VV.lasts _, VV.lasts _, trivial⟩
      refine wp_region_kahn 26 79 [([], [5]), ([], [5]), ([(0, 32), (1, 33)], []), ([], []), ([(2, 34), (3, 35)], []), ([(4, 36)], []), ([(5, 37)], []), ([], [6]), ([], [5]), ([(7, 39), (8, 40)], []), ([], [2]), ([(10, 42)], []), ([(9, 41), (11, 43)], []), ([(12, 44)], []), ([(6, 38), (13, 45)], []), ([(14, 46)], []), ([], [6]), ([(16, 48)], []), ([(17, 49)], []), ([(15, 47), (18, 50)], []), ([(19, 51)], []), ([], [10]), ([], [3]), ([(22, 54)], []), ([(23, 55)], []), ([(21, 53), (24, 56)], [])]
        (fun u => Below w7.heap.size w7 u) (fun u u' => Below u.heap.size u u')
        (Sp [VV (.agg #[.bool ua.s, .slice ua.no ua.nn ua.nc, .slice ua.eo ua.en ua.ec, .bool ub.s, .slice ub.no ub.nn ub.nc, .slice ub.eo ub.en ub.ec, .bool uc.s, .slice uc.no uc.nn uc.nc, .slice uc.eo uc.en uc.ec]), VV (.agg #[.bool ua.s, .slice ua.no ua.nn ua.nc, .slice ua.eo ua.en ua.ec, .bool ub.s, .slice ub.no ub.nn ub.nc, .slice ub.eo ub.en ub.ec, .bool uc.s, .slice uc.no uc.nn uc.nc, .slice uc.eo uc.en uc.ec]), VC ((1 / l * qa1) * (1 / l * qa1) + (1 / l * qa2) * (1 / l * qa2) + (1 / l * qa3) * (1 / l * qa3)) (3 * (7 * K + 4 + (7 * K + 4)) + 2), VC (1) (1), VV (.bool true), VV (.bool false), VV (.bool false), VV (.agg #[.bool ud.s, .slice ud.no ud.nn ud.nc, .slice ud.eo ud.en ud.ec]), VV (.agg #[.bool ua.s, .slice ua.no ua.nn ua.nc, .slice ua.eo ua.en ua.ec, .bool ub.s, .slice ub.no ub.nn ub.nc, .slice ub.eo ub.en ub.ec, .bool uc.s, .slice uc.no uc.nn uc.nc, .slice uc.eo uc.en uc.ec]), VG (l * (1 / l * qa1)) (l * (1 / l * qa2)) (l * (1 / l * qa3)) (7 * K + 4 + (7 * K + 4)), VV (.agg #[.bool a1.s, .slice a1.no a1.nn a1.nc, .slice a1.eo a1.en a1.ec, .bool a2.s, .slice a2.no a2.nn a2.nc, .slice a2.eo a2.en a2.ec, .bool a3.s, .slice a3.no a3.nn a3.nc, .slice a3.eo a3.en a3.ec]), VG (qa1) (qa2) (qa3) (K), VV (.bool true), VV (.bool false), VV (.bool false), VV (.bool false), VV (.agg #[.bool ud.s, .slice ud.no ud.nn ud.nc, .slice ud.eo ud.en ud.ec]), VV (.int .i64 (qsgn (l))), VV (.bool false), VV (.bool false), VV (.bool false), VV (.bool true), VV (.agg #[.bool k.s, .slice k.no k.nn k.nc, .slice k.eo k.en k.ec]), VV (.int .i64 (qsgn (qk))), VV (.bool true), VV (.bool false)])
        (by kernel_rfl) rfl (by kernel_rfl) (Below.refl _ _).drew (fun k v u u' _ hg hs => Sp.lasts HLst k v u u' hg hs) ?_ ?_
      · clear HLst
        refine ⟨.inl ⟨by simp, fun ρ u hC hc hf hd ho => ?_⟩, .inl ⟨by simp, fun ρ u hC hc hf hd ho => ?_⟩, .inl ⟨by simp, fun ρ u hC hc hf hd ho => ?_⟩, .inl ⟨by simp, fun ρ u hC hc hf hd ho => ?_⟩, .inl ⟨by simp, fun ρ u hC hc hf hd ho => ?_⟩, .inl ⟨by simp, fun ρ u hC hc hf hd ho => ?_⟩, .inl ⟨by simp, fun ρ u hC hc hf hd ho => ?_⟩, .inl ⟨guard_of rfl fun _ _ h => h, fun ρ u hC hc hf hd ho => ?_⟩, .inl ⟨guard_of rfl fun _ _ h => h, fun ρ u hC hc hf hd ho => ?_⟩, .inl ⟨guard_of rfl fun _ _ h => h, fun ρ u hC hc hf hd ho => ?_⟩, .inl ⟨guard_of rfl fun _ _ h => h, fun ρ u hC hc hf hd ho => ?_⟩, .inl ⟨guard_of rfl fun _ _ h => h, fun ρ u hC hc hf hd ho => ?_⟩, .inl ⟨guard_of rfl fun _ _ h => h, fun ρ u hC hc hf hd ho => ?_⟩, .inl ⟨guard_of rfl fun _ _ h => h, fun ρ u hC hc hf hd ho => ?_⟩, .inl ⟨by simp, fun ρ u hC hc hf hd ho => ?_⟩, .inl ⟨by simp, fun ρ u hC hc hf hd ho => ?_⟩, .inl ⟨guard_of rfl fun _ _ h => h, fun ρ u hC hc hf hd ho => ?_⟩, .inl ⟨guard_of rfl fun _ _ h => h, fun ρ u hC hc hf hd ho => ?_⟩, .inl ⟨guard_of rfl fun _ _ h => h, fun ρ u hC hc hf hd ho => ?_⟩, .inl ⟨by simp, fun ρ u hC hc hf hd ho => ?_⟩, .inl ⟨by simp, fun ρ u hC hc hf hd ho => ?_⟩, .inl ⟨guard_of rfl fun _ _ h => h, fun ρ u hC hc hf hd ho => ?_⟩, .inl ⟨guard_of rfl fun _ _ h => h, fun ρ u hC hc hf hd ho => ?_⟩, .inl ⟨guard_of rfl fun _ _ h => h, fun ρ u hC hc hf hd ho => ?_⟩, .inl ⟨guard_of rfl fun _ _ h => h, fun ρ u hC hc hf hd ho => ?_⟩, .inl ⟨guard_of rfl fun _ _ h => h, fun ρ u hC hc hf hd ho => ?_⟩, trivial⟩
        · have e5 : ρ (.tmp 5) = .pointer (some ⟨gu, 0, none⟩) := ho 5 (by simp)
          obtain ⟨c0, c1, c2⟩ := (xu.later hC).c0
          obtain ⟨c3, c4, c5⟩ := (xu.later hC).c1
          obtain ⟨c6, c7, c8⟩ := (xu.later hC).c2
          refine Goes.pure (.agg #[.bool ua.s, .slice ua.no ua.nn ua.nc, .slice ua.eo ua.en ua.ec, .bool ub.s, .slice ub.no ub.nn ub.nc, .slice ub.eo ub.en ub.ec, .bool uc.s, .slice uc.no uc.nn uc.nc, .slice uc.eo uc.en uc.ec]) ?_ ⟨hC, Below.refl _ _, rfl⟩
          unfold Goes
          go_simp
        · have e5 : ρ (.tmp 5) = .pointer (some ⟨gu, 0, none⟩) := ho 5 (by simp)
          obtain ⟨c0, c1, c2⟩ := (xu.later hC).c0
          obtain ⟨c3, c4, c5⟩ := (xu.later hC).c1
          obtain ⟨c6, c7, c8⟩ := (xu.later hC).c2
          refine Goes.pure (.agg #[.bool ua.s, .slice ua.no ua.nn ua.nc, .slice ua.eo ua.en ua.ec, .bool ub.s, .slice ub.no ub.nn ub.nc, .slice ub.eo ub.en ub.ec, .bool uc.s, .slice uc.no uc.nn uc.nc, .slice uc.eo uc.en uc.ec]) ?_ ⟨hC, Below.refl _ _, rfl⟩
          unfold Goes
          go_simp
        · have e32 : ρ (.tmp 32) = .agg #[.bool ua.s, .slice ua.no ua.nn ua.nc, .slice ua.eo ua.en ua.ec, .bool ub.s, .slice ub.no ub.nn ub.nc, .slice ub.eo ub.en ub.ec, .bool uc.s, .slice uc.no uc.nn uc.nc, .slice uc.eo uc.en uc.ec] := hd (0, 32) (by simp)
          have e33 : ρ (.tmp 33) = .agg #[.bool ua.s, .slice ua.no ua.nn ua.nc, .slice ua.eo ua.en ua.ec, .bool ub.s, .slice ub.no ub.nn ub.nc, .slice ub.eo ub.en ub.ec, .bool uc.s, .slice uc.no uc.nn uc.nc, .slice uc.eo uc.en uc.ec] := hd (1, 33) (by simp)
          refine Goes.call 17 #[.agg #[.bool ua.s, .slice ua.no ua.nn ua.nc, .slice ua.eo ua.en ua.ec, .bool ub.s, .slice ub.no ub.nn ub.nc, .slice ub.eo ub.en ub.ec, .bool uc.s, .slice uc.no uc.nn uc.nc, .slice uc.eo uc.en uc.ec], .agg #[.bool ua.s, .slice ua.no ua.nn ua.nc, .slice ua.eo ua.en ua.ec, .bool ub.s, .slice ub.no ub.nn ub.nc, .slice ub.eo ub.en ub.ec, .bool uc.s, .slice uc.no uc.nn uc.nc, .slice uc.eo uc.en uc.ec]] (by go_simp) ?_
          refine Calls.mono (vdot_k ((cu.later hC).rd) ((cu.later hC).rd) (by omega) (by omega) (by omega)) ?_
          rintro e u' ⟨s1, no1, nn1, nc1, eo1, en1, ec1, rfl, cq, lb⟩
          exact ⟨_, rfl, hC.trans (lb.mono hC.size), lb, ⟨s1, no1, nn1, nc1, eo1, en1, ec1, rfl, cq⟩⟩
        · refine Goes.call 31 #[] (by go_simp) ?_
          refine Calls.mono (one3_any u) ?_
          rintro e u' ⟨s1, no1, nn1, nc1, eo1, en1, ec1, rfl, cq, lb⟩
          exact ⟨_, rfl, hC.trans (lb.mono hC.size), lb, ⟨s1, no1, nn1, nc1, eo1, en1, ec1, rfl, cq⟩⟩
        · obtain ⟨s34, no34, nn34, nc34, eo34, en34, ec34, e34, k34⟩ : VC ((1 / l * qa1) * (1 / l * qa1) + (1 / l * qa2) * (1 / l * qa2) + (1 / l * qa3) * (1 / l * qa3)) (3 * (7 * K + 4 + (7 * K + 4)) + 2) (ρ (.tmp 34)) u := hd (2, 34) (by simp)
          obtain ⟨s35, no35, nn35, nc35, eo35, en35, ec35, e35, k35⟩ : VC (1) (1) (ρ (.tmp 35)) u := hd (3, 35) (by simp)
          refine Goes.call 16 #[.agg #[.bool s34, .slice no34 nn34 nc34, .slice eo34 en34 ec34], .agg #[.bool s35, .slice no35 nn35 nc35, .slice eo35 en35 ec35]] (by go_simp) ?_
          refine Calls.mono (is3_any u s34 no34 nn34 nc34 eo34 en34 ec34 s35 no35 nn35 nc35 eo35 en35 ec35 _ _ _ _ k34.num k34.den k35.num k35.den (by have := k34.ln; omega) (by have := k34.ld; omega) (by have := k35.ln; omega) (by have := k35.ld; omega)) ?_
          rintro e u' ⟨r, rfl, HR, lb⟩
          exact ⟨_, rfl, hC.trans (lb.mono hC.size), lb, by rw [HR.out.2 (cq_same k34 k35 (d1))]; rfl⟩
        · have e36 : ρ (.tmp 36) = .bool true := hd (4, 36) (by simp)
          refine Goes.pure (.bool false) ?_ ⟨hC, Below.refl _ _, rfl⟩
          unfold Goes
          go_simp
        · have e37 : ρ (.tmp 37) = .bool false := hd (5, 37) (by simp)
          refine Goes.pure (.bool false) ?_ ⟨hC, Below.refl _ _, rfl⟩
          unfold Goes
          go_simp
        · have e6 : ρ (.tmp 6) = .pointer (some ⟨gl, 0, none⟩) := ho 6 (by simp)
          obtain ⟨c0, c1, c2⟩ := (xl.later hC).cells
          refine Goes.pure (.agg #[.bool ud.s, .slice ud.no ud.nn ud.nc, .slice ud.eo ud.en ud.ec]) ?_ ⟨hC, Below.refl _ _, rfl⟩
          unfold Goes
          go_simp
        · have e5 : ρ (.tmp 5) = .pointer (some ⟨gu, 0, none⟩) := ho 5 (by simp)
          obtain ⟨c0, c1, c2⟩ := (xu.later hC).c0
          obtain ⟨c3, c4, c5⟩ := (xu.later hC).c1
          obtain ⟨c6, c7, c8⟩ := (xu.later hC).c2
          refine Goes.pure (.agg #[.bool ua.s, .slice ua.no ua.nn ua.nc, .slice ua.eo ua.en ua.ec, .bool ub.s, .slice ub.no ub.nn ub.nc, .slice ub.eo ub.en ub.ec, .bool uc.s, .slice uc.no uc.nn uc.nc, .slice uc.eo uc.en uc.ec]) ?_ ⟨hC, Below.refl _ _, rfl⟩
          unfold Goes
          go_simp
        · have e39 : ρ (.tmp 39) = .agg #[.bool ud.s, .slice ud.no ud.nn ud.nc, .slice ud.eo ud.en ud.ec] := hd (7, 39) (by simp)
          have e40 : ρ (.tmp 40) = .agg #[.bool ua.s, .slice ua.no ua.nn ua.nc, .slice ua.eo ua.en ua.ec, .bool ub.s, .slice ub.no ub.nn ub.nc, .slice ub.eo ub.en ub.ec, .bool uc.s, .slice uc.no uc.nn uc.nc, .slice uc.eo uc.en uc.ec] := hd (8, 40) (by simp)
          refine Goes.call 14 #[.agg #[.bool ud.s, .slice ud.no ud.nn ud.nc, .slice ud.eo ud.en ud.ec], .agg #[.bool ua.s, .slice ua.no ua.nn ua.nc, .slice ua.eo ua.en ua.ec, .bool ub.s, .slice ub.no ub.nn ub.nc, .slice ub.eo ub.en ub.ec, .bool uc.s, .slice uc.no uc.nn uc.nc, .slice uc.eo uc.en uc.ec]] (by go_simp) ?_
          refine Calls.mono (vscale_k (k := ⟨ud.s, ud.no, ud.nn, ud.nc, ud.eo, ud.en, ud.ec⟩) ((cl.later hC).rd) ((cu.later hC).rd) (by omega) (by omega) (by omega)) ?_
          rintro e u' ⟨ra, rb, rc, rfl, cv, lb⟩
          exact ⟨_, rfl, hC.trans (lb.mono hC.size), lb, ⟨ra, rb, rc, rfl, cv⟩⟩
        · have e2 : ρ (.tmp 2) = .pointer (some ⟨ga, 0, none⟩) := ho 2 (by simp)
          obtain ⟨c0, c1, c2⟩ := (xa.later hC).c0
          obtain ⟨c3, c4, c5⟩ := (xa.later hC).c1
          obtain ⟨c6, c7, c8⟩ := (xa.later hC).c2
          refine Goes.pure (.agg #[.bool a1.s, .slice a1.no a1.nn a1.nc, .slice a1.eo a1.en a1.ec, .bool a2.s, .slice a2.no a2.nn a2.nc, .slice a2.eo a2.en a2.ec, .bool a3.s, .slice a3.no a3.nn a3.nc, .slice a3.eo a3.en a3.ec]) ?_ ⟨hC, Below.refl _ _, rfl⟩
          unfold Goes
          go_simp
        · have e42 : ρ (.tmp 42) = .agg #[.bool a1.s, .slice a1.no a1.nn a1.nc, .slice a1.eo a1.en a1.ec, .bool a2.s, .slice a2.no a2.nn a2.nc, .slice a2.eo a2.en a2.ec, .bool a3.s, .slice a3.no a3.nn a3.nc, .slice a3.eo a3.en a3.ec] := hd (10, 42) (by simp)
          refine Goes.call 21 #[.agg #[.bool a1.s, .slice a1.no a1.nn a1.nc, .slice a1.eo a1.en a1.ec, .bool a2.s, .slice a2.no a2.nn a2.nc, .slice a2.eo a2.en a2.ec, .bool a3.s, .slice a3.no a3.nn a3.nc, .slice a3.eo a3.en a3.ec]] (by go_simp) ?_
          refine Calls.mono (vread_k (ha.later hC) (by omega) (by omega)) ?_
          rintro e u' ⟨ra, rb, rc, rfl, cv, lb⟩
          exact ⟨_, rfl, hC.trans (lb.mono hC.size), lb, ⟨ra, rb, rc, rfl, cv⟩⟩
        · obtain ⟨ra41, rb41, rc41, e41, k41⟩ : VG (l * (1 / l * qa1)) (l * (1 / l * qa2)) (l * (1 / l * qa3)) (7 * K + 4 + (7 * K + 4)) (ρ (.tmp 41)) u := hd (9, 41) (by simp)
          obtain ⟨ra43, rb43, rc43, e43, k43⟩ : VG (qa1) (qa2) (qa3) (K) (ρ (.tmp 43)) u := hd (11, 43) (by simp)
          refine Goes.call 9 #[.agg #[.bool ra41.s, .slice ra41.no ra41.nn ra41.nc, .slice ra41.eo ra41.en ra41.ec, .bool rb41.s, .slice rb41.no rb41.nn rb41.nc, .slice rb41.eo rb41.en rb41.ec, .bool rc41.s, .slice rc41.no rc41.nn rc41.nc, .slice rc41.eo rc41.en rc41.ec], .agg #[.bool ra43.s, .slice ra43.no ra43.nn ra43.nc, .slice ra43.eo ra43.en ra43.ec, .bool rb43.s, .slice rb43.no rb43.nn rb43.nc, .slice rb43.eo rb43.en rb43.ec, .bool rc43.s, .slice rc43.no rc43.nn rc43.nc, .slice rc43.eo rc43.en rc43.ec]] (by go_simp) ?_
          refine Calls.mono (vis5 (k41) (k43) (by omega) (by omega)) ?_
          rintro e u' ⟨r, rfl, HR, lb⟩
          exact ⟨_, rfl, hC.trans (lb.mono hC.size), lb, by rw [HR.out.2 ⟨unit_back hl, unit_back hl, unit_back hl⟩]; rfl⟩
        · have e44 : ρ (.tmp 44) = .bool true := hd (12, 44) (by simp)
          refine Goes.pure (.bool false) ?_ ⟨hC, Below.refl _ _, rfl⟩
          unfold Goes
          go_simp
        · have e38 : ρ (.tmp 38) = .bool false := hd (6, 38) (by simp)
          have e45 : ρ (.tmp 45) = .bool false := hd (13, 45) (by simp)
          refine Goes.pure (.bool false) ?_ ⟨hC, Below.refl _ _, rfl⟩
          unfold Goes
          go_simp
        · have e46 : ρ (.tmp 46) = .bool false := hd (14, 46) (by simp)
          refine Goes.pure (.bool false) ?_ ⟨hC, Below.refl _ _, rfl⟩
          unfold Goes
          go_simp
        · have e6 : ρ (.tmp 6) = .pointer (some ⟨gl, 0, none⟩) := ho 6 (by simp)
          obtain ⟨c0, c1, c2⟩ := (xl.later hC).cells
          refine Goes.pure (.agg #[.bool ud.s, .slice ud.no ud.nn ud.nc, .slice ud.eo ud.en ud.ec]) ?_ ⟨hC, Below.refl _ _, rfl⟩
          unfold Goes
          go_simp
        · have e48 : ρ (.tmp 48) = .agg #[.bool ud.s, .slice ud.no ud.nn ud.nc, .slice ud.eo ud.en ud.ec] := hd (16, 48) (by simp)
          refine Goes.call 26 #[.agg #[.bool ud.s, .slice ud.no ud.nn ud.nc, .slice ud.eo ud.en ud.ec]] (by go_simp) ?_
          refine Calls.mono (ratSign_k (cl.later hC).rd (by omega)) ?_
          rintro e u' ⟨rfl, lb⟩
          exact ⟨_, rfl, hC.trans (lb.mono hC.size), lb, rfl⟩
        · have e49 : ρ (.tmp 49) = .int .i64 (qsgn (l)) := hd (17, 49) (by simp)
          rw [hsl] at e49
          refine Goes.pure (.bool false) ?_ ⟨hC, Below.refl _ _, rfl⟩
          unfold Goes
          go_simp
        · have e47 : ρ (.tmp 47) = .bool false := hd (15, 47) (by simp)
          have e50 : ρ (.tmp 50) = .bool false := hd (18, 50) (by simp)
          refine Goes.pure (.bool false) ?_ ⟨hC, Below.refl _ _, rfl⟩
          unfold Goes
          go_simp
        · have e51 : ρ (.tmp 51) = .bool false := hd (19, 51) (by simp)
          refine Goes.pure (.bool false) ?_ ⟨hC, Below.refl _ _, rfl⟩
          unfold Goes
          go_simp
        · have e10 : ρ (.tmp 10) = .bool true := ho 10 (by simp)
          refine Goes.pure (.bool true) ?_ ⟨hC, Below.refl _ _, rfl⟩
          unfold Goes
          go_simp
        · have e3 : ρ (.tmp 3) = .pointer (some ⟨gk, 0, none⟩) := ho 3 (by simp)
          obtain ⟨c0, c1, c2⟩ := (xk.later hC).cells
          refine Goes.pure (.agg #[.bool k.s, .slice k.no k.nn k.nc, .slice k.eo k.en k.ec]) ?_ ⟨hC, Below.refl _ _, rfl⟩
          unfold Goes
          go_simp
        · have e54 : ρ (.tmp 54) = .agg #[.bool k.s, .slice k.no k.nn k.nc, .slice k.eo k.en k.ec] := hd (22, 54) (by simp)
          refine Goes.call 26 #[.agg #[.bool k.s, .slice k.no k.nn k.nc, .slice k.eo k.en k.ec]] (by go_simp) ?_
          refine Calls.mono (ratSign_k (hk.later hC) (by omega)) ?_
          rintro e u' ⟨rfl, lb⟩
          exact ⟨_, rfl, hC.trans (lb.mono hC.size), lb, rfl⟩
        · have e55 : ρ (.tmp 55) = .int .i64 (qsgn (qk)) := hd (23, 55) (by simp)
          rw [hsk] at e55
          refine Goes.pure (.bool true) ?_ ⟨hC, Below.refl _ _, rfl⟩
          unfold Goes
          go_simp
        · have e53 : ρ (.tmp 53) = .bool true := hd (21, 53) (by simp)
          have e56 : ρ (.tmp 56) = .bool true := hd (24, 56) (by simp)
          refine Goes.pure (.bool false) ?_ ⟨hC, Below.refl _ _, rfl⟩
          unfold Goes
          go_simp
      · intro vs u lb hv
        have eR : vs 20 = .bool false := hv 20 (by omega)
        have eS : vs 25 = .bool false := hv 25 (by omega)
        clear hv
        simp only [puts, List.take, List.drop, Act.put, List.setIfInBounds_toArray, List.set_cons_succ, List.set_cons_zero, Nat.reduceAdd, eR, eS]
        clear eR eS
        go_wp2
        obtain ⟨w8, rfl⟩ : ∃ w8, w8 = u := ⟨_, rfl⟩
        replace ha := ha.later lb
        replace hk := hk.later lb
        replace xa := xa.later lb
        replace xk := xk.later lb
        replace cu := cu.later lb
        replace cl := cl.later lb
        replace xu := xu.later lb
        replace xl := xl.later lb
        replace cw := cw.later lb
        replace cm := cm.later lb
        replace xw := xw.later lb
        replace xm := xm.later lb
        have B8 := B7.trans (lb.mono B7.size)
        clear B7 lb
        have hs1 : (((qsgn (qk)) : Int) : Rat) / ((1 : Int) : Rat) = 1 := by rw [hsk]; decide +kernel
        have HLst : Lst [VV (.bool true), VV (.bool false), VV (.bool false), VV (.agg #[.bool wd.s, .slice wd.no wd.nn wd.nc, .slice wd.eo wd.en wd.ec]), VV (.agg #[.bool k.s, .slice k.no k.nn k.nc, .slice k.eo k.en k.ec]), VC (qabs (qk)) (K), VV (.agg #[.bool ud.s, .slice ud.no ud.nn ud.nc, .slice ud.eo ud.en ud.ec]), VL [qabs (qk), l] (K + 7 * K + 4), VC ((qabs (qk)) * l) (2 * (K + 7 * K + 4 + 1) + 1), VV (.bool true), VV (.bool true), VV (.agg #[.bool wa.s, .slice wa.no wa.nn wa.nc, .slice wa.eo wa.en wa.ec, .bool wb.s, .slice wb.no wb.nn wb.nc, .slice wb.eo wb.en wb.ec, .bool wc.s, .slice wc.no wc.nn wc.nc, .slice wc.eo wc.en wc.ec]), VV (.agg #[.bool k.s, .slice k.no k.nn k.nc, .slice k.eo k.en k.ec]), VV (.int .i64 (qsgn (qk))), VC (((((qsgn (qk)) : Int) : Rat) / ((1 : Int) : Rat))) (2), VV (.agg #[.bool ua.s, .slice ua.no ua.nn ua.nc, .slice ua.eo ua.en ua.ec, .bool ub.s, .slice ub.no ub.nn ub.nc, .slice ub.eo ub.en ub.ec, .bool uc.s, .slice uc.no uc.nn uc.nc, .slice uc.eo uc.en uc.ec]), VG (((((qsgn (qk)) : Int) : Rat) / ((1 : Int) : Rat)) * (1 / l * qa1)) (((((qsgn (qk)) : Int) : Rat) / ((1 : Int) : Rat)) * (1 / l * qa2)) (((((qsgn (qk)) : Int) : Rat) / ((1 : Int) : Rat)) * (1 / l * qa3)) (2 + (7 * K + 4)), VV (.bool true), VV (.bool true), VV (.bool true)] := ⟨VV.lasts _, VV.lasts _, VV.lasts _, VV.lasts _, VV.lasts _, VC.lasts _ _, VV.lasts _, VL.lasts _ _, VC.lasts _ _, VV.lasts _, VV.lasts _, VV.lasts _, VV.lasts _, VV.lasts _, VC.lasts _ _, VV.lasts _, VG.lasts _ _ _ _, VV.lasts _, VV.lasts _, VV.lasts _, trivial⟩
        refine wp_region_kahn 20 79 [([], [10]), ([(0, 59)], []), ([(1, 60)], []), ([], [9]), ([], [3]), ([(4, 63)], []), ([], [6]), ([(5, 64), (6, 65)], []), ([(7, 66)], []), ([(3, 62), (8, 67)], []), ([(9, 68)], []), ([], [8]), ([], [3]), ([(12, 71)], []), ([(13, 72)], []), ([], [5]), ([(14, 73), (15, 74)], []), ([(11, 70), (16, 75)], []), ([(10, 69), (17, 76)], []), ([(2, 61), (18, 77)], [])]
          (fun u => Below w8.heap.size w8 u) (fun u u' => Below u.heap.size u u')
          (Sp [VV (.bool true), VV (.bool false), VV (.bool false), VV (.agg #[.bool wd.s, .slice wd.no wd.nn wd.nc, .slice wd.eo wd.en wd.ec]), VV (.agg #[.bool k.s, .slice k.no k.nn k.nc, .slice k.eo k.en k.ec]), VC (qabs (qk)) (K), VV (.agg #[.bool ud.s, .slice ud.no ud.nn ud.nc, .slice ud.eo ud.en ud.ec]), VL [qabs (qk), l] (K + 7 * K + 4), VC ((qabs (qk)) * l) (2 * (K + 7 * K + 4 + 1) + 1), VV (.bool true), VV (.bool true), VV (.agg #[.bool wa.s, .slice wa.no wa.nn wa.nc, .slice wa.eo wa.en wa.ec, .bool wb.s, .slice wb.no wb.nn wb.nc, .slice wb.eo wb.en wb.ec, .bool wc.s, .slice wc.no wc.nn wc.nc, .slice wc.eo wc.en wc.ec]), VV (.agg #[.bool k.s, .slice k.no k.nn k.nc, .slice k.eo k.en k.ec]), VV (.int .i64 (qsgn (qk))), VC (((((qsgn (qk)) : Int) : Rat) / ((1 : Int) : Rat))) (2), VV (.agg #[.bool ua.s, .slice ua.no ua.nn ua.nc, .slice ua.eo ua.en ua.ec, .bool ub.s, .slice ub.no ub.nn ub.nc, .slice ub.eo ub.en ub.ec, .bool uc.s, .slice uc.no uc.nn uc.nc, .slice uc.eo uc.en uc.ec]), VG (((((qsgn (qk)) : Int) : Rat) / ((1 : Int) : Rat)) * (1 / l * qa1)) (((((qsgn (qk)) : Int) : Rat) / ((1 : Int) : Rat)) * (1 / l * qa2)) (((((qsgn (qk)) : Int) : Rat) / ((1 : Int) : Rat)) * (1 / l * qa3)) (2 + (7 * K + 4)), VV (.bool true), VV (.bool true), VV (.bool true)])
          (by kernel_rfl) rfl (by kernel_rfl) (Below.refl _ _).drew (fun k v u u' _ hg hs => Sp.lasts HLst k v u u' hg hs) ?_ ?_
        · clear HLst
          refine ⟨.inl ⟨by simp, fun ρ u hC hc hf hd ho => ?_⟩, .inl ⟨by simp, fun ρ u hC hc hf hd ho => ?_⟩, .inl ⟨by simp, fun ρ u hC hc hf hd ho => ?_⟩, .inl ⟨guard_of rfl fun _ _ h => h, fun ρ u hC hc hf hd ho => ?_⟩, .inl ⟨guard_of rfl fun _ _ h => h, fun ρ u hC hc hf hd ho => ?_⟩, .inl ⟨guard_of rfl fun _ _ h => h, fun ρ u hC hc hf hd ho => ?_⟩, .inl ⟨guard_of rfl fun _ _ h => h, fun ρ u hC hc hf hd ho => ?_⟩, .inl ⟨guard_of rfl fun _ _ h => h, fun ρ u hC hc hf hd ho => ?_⟩, .inl ⟨guard_of rfl fun _ _ h => h, fun ρ u hC hc hf hd ho => ?_⟩, .inl ⟨guard_of rfl fun _ _ h => h, fun ρ u hC hc hf hd ho => ?_⟩, .inl ⟨guard_of rfl fun _ _ h => h, fun ρ u hC hc hf hd ho => ?_⟩, .inl ⟨guard_of rfl fun _ _ h => h, fun ρ u hC hc hf hd ho => ?_⟩, .inl ⟨guard_of rfl fun _ _ h => h, fun ρ u hC hc hf hd ho => ?_⟩, .inl ⟨guard_of rfl fun _ _ h => h, fun ρ u hC hc hf hd ho => ?_⟩, .inl ⟨guard_of rfl fun _ _ h => h, fun ρ u hC hc hf hd ho => ?_⟩, .inl ⟨guard_of rfl fun _ _ h => h, fun ρ u hC hc hf hd ho => ?_⟩, .inl ⟨guard_of rfl fun _ _ h => h, fun ρ u hC hc hf hd ho => ?_⟩, .inl ⟨guard_of rfl fun _ _ h => h, fun ρ u hC hc hf hd ho => ?_⟩, .inl ⟨guard_of rfl fun _ _ h => h, fun ρ u hC hc hf hd ho => ?_⟩, .inl ⟨by simp, fun ρ u hC hc hf hd ho => ?_⟩, trivial⟩
          · have e10 : ρ (.tmp 10) = .bool true := ho 10 (by simp)
            refine Goes.pure (.bool true) ?_ ⟨hC, Below.refl _ _, rfl⟩
            unfold Goes
            go_simp
          · have e59 : ρ (.tmp 59) = .bool true := hd (0, 59) (by simp)
            refine Goes.pure (.bool false) ?_ ⟨hC, Below.refl _ _, rfl⟩
            unfold Goes
            go_simp
          · have e60 : ρ (.tmp 60) = .bool false := hd (1, 60) (by simp)
            refine Goes.pure (.bool false) ?_ ⟨hC, Below.refl _ _, rfl⟩
            unfold Goes
            go_simp
          · have e9 : ρ (.tmp 9) = .pointer (some ⟨gm, 0, none⟩) := ho 9 (by simp)
            obtain ⟨c0, c1, c2⟩ := (xm.later hC).cells
            refine Goes.pure (.agg #[.bool wd.s, .slice wd.no wd.nn wd.nc, .slice wd.eo wd.en wd.ec]) ?_ ⟨hC, Below.refl _ _, rfl⟩
            unfold Goes
            go_simp
          · have e3 : ρ (.tmp 3) = .pointer (some ⟨gk, 0, none⟩) := ho 3 (by simp)
            obtain ⟨c0, c1, c2⟩ := (xk.later hC).cells
            refine Goes.pure (.agg #[.bool k.s, .slice k.no k.nn k.nc, .slice k.eo k.en k.ec]) ?_ ⟨hC, Below.refl _ _, rfl⟩
            unfold Goes
            go_simp
          · have e63 : ρ (.tmp 63) = .agg #[.bool k.s, .slice k.no k.nn k.nc, .slice k.eo k.en k.ec] := hd (4, 63) (by simp)
            refine Goes.call 32 #[.agg #[.bool k.s, .slice k.no k.nn k.nc, .slice k.eo k.en k.ec]] (by go_simp) ?_
            refine Calls.mono (ratAbs_k (hk.later hC) (by omega) (by omega)) ?_
            rintro e u' ⟨s1, no1, nn1, nc1, eo1, en1, ec1, rfl, cq, lb⟩
            exact ⟨_, rfl, hC.trans (lb.mono hC.size), lb, ⟨s1, no1, nn1, nc1, eo1, en1, ec1, rfl, cq⟩⟩
          · have e6 : ρ (.tmp 6) = .pointer (some ⟨gl, 0, none⟩) := ho 6 (by simp)
            obtain ⟨c0, c1, c2⟩ := (xl.later hC).cells
            refine Goes.pure (.agg #[.bool ud.s, .slice ud.no ud.nn ud.nc, .slice ud.eo ud.en ud.ec]) ?_ ⟨hC, Below.refl _ _, rfl⟩
            unfold Goes
            go_simp
          · obtain ⟨s64, no64, nn64, nc64, eo64, en64, ec64, e64, k64⟩ : VC (qabs (qk)) (K) (ρ (.tmp 64)) u := hd (5, 64) (by simp)
            have e65 : ρ (.tmp 65) = .agg #[.bool ud.s, .slice ud.no ud.nn ud.nc, .slice ud.eo ud.en ud.ec] := hd (6, 65) (by simp)
            have lb : Below u.heap.size u (u.alloc (.cells #[.bool s64, .slice no64 nn64 nc64, .slice eo64 en64 ec64, .bool ud.s, .slice ud.no ud.nn ud.nc, .slice ud.eo ud.en ud.ec] 24)) := (Below.refl _ _).alloc (Nat.le_refl _) _
            refine Goes.run (.slice (some ⟨u.heap.size, 0, none⟩) 2 2) (u.alloc (.cells #[.bool s64, .slice no64 nn64 nc64, .slice eo64 en64 ec64, .bool ud.s, .slice ud.no ud.nn ud.nc, .slice ud.eo ud.en ud.ec] 24)) (by go_simp) ⟨hC.trans (lb.mono hC.size), lb, ?_⟩
            exact VL.made [⟨s64, no64, nn64, nc64, eo64, en64, ec64⟩, ⟨ud.s, ud.no, ud.nn, ud.nc, ud.eo, ud.en, ud.ec⟩] [qabs (qk), l] ⟨k64.rd.mono (by omega), (cl.later hC).rd.mono (by omega), trivial⟩ _ rfl 2 rfl
          · have k66 : VL [qabs (qk), l] (K + 7 * K + 4) (ρ (.tmp 66)) u := hd (7, 66) (by simp)
            refine Goes.call 29 #[ρ (.tmp 66)] (by go_simp) ?_
            refine Calls.mono (ratProduct_k k66 (by omega) (by simp only [List.length_cons, List.length_nil]; omega)) ?_
            rintro e u' ⟨s1, no1, nn1, nc1, eo1, en1, ec1, rfl, cq, lb⟩
            exact ⟨_, rfl, hC.trans (lb.mono hC.size), lb, ⟨s1, no1, nn1, nc1, eo1, en1, ec1, rfl, by rw [qprod2] at cq; exact cq.mono (by simp only [List.length_cons, List.length_nil]; omega)⟩⟩
          · have e62 : ρ (.tmp 62) = .agg #[.bool wd.s, .slice wd.no wd.nn wd.nc, .slice wd.eo wd.en wd.ec] := hd (3, 62) (by simp)
            obtain ⟨s67, no67, nn67, nc67, eo67, en67, ec67, e67, k67⟩ : VC ((qabs (qk)) * l) (2 * (K + 7 * K + 4 + 1) + 1) (ρ (.tmp 67)) u := hd (8, 67) (by simp)
            refine Goes.call 16 #[.agg #[.bool wd.s, .slice wd.no wd.nn wd.nc, .slice wd.eo wd.en wd.ec], .agg #[.bool s67, .slice no67 nn67 nc67, .slice eo67 en67 ec67]] (by go_simp) ?_
            refine Calls.mono (is3_any u wd.s wd.no wd.nn wd.nc wd.eo wd.en wd.ec s67 no67 nn67 nc67 eo67 en67 ec67 _ _ _ _ (cm.later hC).num (cm.later hC).den k67.num k67.den (by have := (cm.later hC).ln; omega) (by have := (cm.later hC).ld; omega) (by have := k67.ln; omega) (by have := k67.ld; omega)) ?_
            rintro e u' ⟨r, rfl, HR, lb⟩
            exact ⟨_, rfl, hC.trans (lb.mono hC.size), lb, by rw [HR.out.2 (cq_same (cm.later hC) k67 (by rw [hab]))]; rfl⟩
          · have e68 : ρ (.tmp 68) = .bool true := hd (9, 68) (by simp)
            refine Goes.pure (.bool true) ?_ ⟨hC, Below.refl _ _, rfl⟩
            unfold Goes
            go_simp
          · have e8 : ρ (.tmp 8) = .pointer (some ⟨gw, 0, none⟩) := ho 8 (by simp)
            obtain ⟨c0, c1, c2⟩ := (xw.later hC).c0
            obtain ⟨c3, c4, c5⟩ := (xw.later hC).c1
            obtain ⟨c6, c7, c8⟩ := (xw.later hC).c2
            refine Goes.pure (.agg #[.bool wa.s, .slice wa.no wa.nn wa.nc, .slice wa.eo wa.en wa.ec, .bool wb.s, .slice wb.no wb.nn wb.nc, .slice wb.eo wb.en wb.ec, .bool wc.s, .slice wc.no wc.nn wc.nc, .slice wc.eo wc.en wc.ec]) ?_ ⟨hC, Below.refl _ _, rfl⟩
            unfold Goes
            go_simp
          · have e3 : ρ (.tmp 3) = .pointer (some ⟨gk, 0, none⟩) := ho 3 (by simp)
            obtain ⟨c0, c1, c2⟩ := (xk.later hC).cells
            refine Goes.pure (.agg #[.bool k.s, .slice k.no k.nn k.nc, .slice k.eo k.en k.ec]) ?_ ⟨hC, Below.refl _ _, rfl⟩
            unfold Goes
            go_simp
          · have e71 : ρ (.tmp 71) = .agg #[.bool k.s, .slice k.no k.nn k.nc, .slice k.eo k.en k.ec] := hd (12, 71) (by simp)
            refine Goes.call 26 #[.agg #[.bool k.s, .slice k.no k.nn k.nc, .slice k.eo k.en k.ec]] (by go_simp) ?_
            refine Calls.mono (ratSign_k (hk.later hC) (by omega)) ?_
            rintro e u' ⟨rfl, lb⟩
            exact ⟨_, rfl, hC.trans (lb.mono hC.size), lb, rfl⟩
          · have e72 : ρ (.tmp 72) = .int .i64 (qsgn (qk)) := hd (13, 72) (by simp)
            refine Goes.call 30 #[.int .i64 (qsgn (qk)), .int .i64 1] (by go_simp) ?_
            refine Calls.mono (ratOf_k (qsgn (qk)) 1 (by omega) (by omega) (by omega) (by omega)) ?_
            rintro e u' ⟨s1, no1, nn1, nc1, eo1, en1, ec1, rfl, cq, lb⟩
            exact ⟨_, rfl, hC.trans (lb.mono hC.size), lb, ⟨s1, no1, nn1, nc1, eo1, en1, ec1, rfl, cq⟩⟩
          · have e5 : ρ (.tmp 5) = .pointer (some ⟨gu, 0, none⟩) := ho 5 (by simp)
            obtain ⟨c0, c1, c2⟩ := (xu.later hC).c0
            obtain ⟨c3, c4, c5⟩ := (xu.later hC).c1
            obtain ⟨c6, c7, c8⟩ := (xu.later hC).c2
            refine Goes.pure (.agg #[.bool ua.s, .slice ua.no ua.nn ua.nc, .slice ua.eo ua.en ua.ec, .bool ub.s, .slice ub.no ub.nn ub.nc, .slice ub.eo ub.en ub.ec, .bool uc.s, .slice uc.no uc.nn uc.nc, .slice uc.eo uc.en uc.ec]) ?_ ⟨hC, Below.refl _ _, rfl⟩
            unfold Goes
            go_simp
          · obtain ⟨s73, no73, nn73, nc73, eo73, en73, ec73, e73, k73⟩ : VC (((((qsgn (qk)) : Int) : Rat) / ((1 : Int) : Rat))) (2) (ρ (.tmp 73)) u := hd (14, 73) (by simp)
            have e74 : ρ (.tmp 74) = .agg #[.bool ua.s, .slice ua.no ua.nn ua.nc, .slice ua.eo ua.en ua.ec, .bool ub.s, .slice ub.no ub.nn ub.nc, .slice ub.eo ub.en ub.ec, .bool uc.s, .slice uc.no uc.nn uc.nc, .slice uc.eo uc.en uc.ec] := hd (15, 74) (by simp)
            refine Goes.call 14 #[.agg #[.bool s73, .slice no73 nn73 nc73, .slice eo73 en73 ec73], .agg #[.bool ua.s, .slice ua.no ua.nn ua.nc, .slice ua.eo ua.en ua.ec, .bool ub.s, .slice ub.no ub.nn ub.nc, .slice ub.eo ub.en ub.ec, .bool uc.s, .slice uc.no uc.nn uc.nc, .slice uc.eo uc.en uc.ec]] (by go_simp) ?_
            refine Calls.mono (vscale_k (k := ⟨s73, no73, nn73, nc73, eo73, en73, ec73⟩) (k73.rd) ((cu.later hC).rd) (by omega) (by omega) (by omega)) ?_
            rintro e u' ⟨ra, rb, rc, rfl, cv, lb⟩
            exact ⟨_, rfl, hC.trans (lb.mono hC.size), lb, ⟨ra, rb, rc, rfl, cv⟩⟩
          · have e70 : ρ (.tmp 70) = .agg #[.bool wa.s, .slice wa.no wa.nn wa.nc, .slice wa.eo wa.en wa.ec, .bool wb.s, .slice wb.no wb.nn wb.nc, .slice wb.eo wb.en wb.ec, .bool wc.s, .slice wc.no wc.nn wc.nc, .slice wc.eo wc.en wc.ec] := hd (11, 70) (by simp)
            obtain ⟨ra75, rb75, rc75, e75, k75⟩ : VG (((((qsgn (qk)) : Int) : Rat) / ((1 : Int) : Rat)) * (1 / l * qa1)) (((((qsgn (qk)) : Int) : Rat) / ((1 : Int) : Rat)) * (1 / l * qa2)) (((((qsgn (qk)) : Int) : Rat) / ((1 : Int) : Rat)) * (1 / l * qa3)) (2 + (7 * K + 4)) (ρ (.tmp 75)) u := hd (16, 75) (by simp)
            refine Goes.call 9 #[.agg #[.bool wa.s, .slice wa.no wa.nn wa.nc, .slice wa.eo wa.en wa.ec, .bool wb.s, .slice wb.no wb.nn wb.nc, .slice wb.eo wb.en wb.ec, .bool wc.s, .slice wc.no wc.nn wc.nc, .slice wc.eo wc.en wc.ec], .agg #[.bool ra75.s, .slice ra75.no ra75.nn ra75.nc, .slice ra75.eo ra75.en ra75.ec, .bool rb75.s, .slice rb75.no rb75.nn rb75.nc, .slice rb75.eo rb75.en rb75.ec, .bool rc75.s, .slice rc75.no rc75.nn rc75.nc, .slice rc75.eo rc75.en rc75.ec]] (by go_simp) ?_
            refine Calls.mono (vis5 ((cw.later hC)) (k75) (by omega) (by omega)) ?_
            rintro e u' ⟨r, rfl, HR, lb⟩
            exact ⟨_, rfl, hC.trans (lb.mono hC.size), lb, by rw [HR.out.2 ⟨by rw [hs1]; exact unit_pos hk0 hl, by rw [hs1]; exact unit_pos hk0 hl, by rw [hs1]; exact unit_pos hk0 hl⟩]; rfl⟩
          · have e69 : ρ (.tmp 69) = .bool true := hd (10, 69) (by simp)
            have e76 : ρ (.tmp 76) = .bool true := hd (17, 76) (by simp)
            refine Goes.pure (.bool true) ?_ ⟨hC, Below.refl _ _, rfl⟩
            unfold Goes
            go_simp
          · have e61 : ρ (.tmp 61) = .bool false := hd (2, 61) (by simp)
            have e77 : ρ (.tmp 77) = .bool true := hd (18, 77) (by simp)
            refine Goes.pure (.bool true) ?_ ⟨hC, Below.refl _ _, rfl⟩
            unfold Goes
            go_simp
        · intro vs u hC hv
          have eR : vs 19 = .bool true := hv 19 (by omega)
          clear hv
          simp only [puts, List.take, List.drop, Act.put, List.setIfInBounds_toArray, List.set_cons_succ, List.set_cons_zero, Nat.reduceAdd, eR]
          go_wp2
          go_ret
          exact ⟨rfl, B8.trans (hC.mono B8.size)⟩
  · rw [Bool.not_eq_true] at hok
    refine (vunit_k ha (by omega) (by omega)).mono ?_
    rintro e w2 ⟨ua, ub, uc, ud, rfl, cu, cl, lb⟩
    replace ha := ha.later lb
    replace hk := hk.later lb
    replace xa := xa.later lb
    replace xk := xk.later lb
    have B2 := B1.trans (lb.mono B1.size)
    clear B1 lb
    rw [hok]
    obtain ⟨w3, hw, xu, xl, lb⟩ := bx_VR w2 ua ub uc ud
    obtain ⟨gu, hgu⟩ : ∃ gu, gu = w2.heap.size := ⟨_, rfl⟩
    rw [← hgu] at xu
    obtain ⟨gl, hgl⟩ : ∃ gl, gl = w2.heap.size + 1 := ⟨_, rfl⟩
    rw [← hgl] at xl
    replace ha := ha.later lb
    replace hk := hk.later lb
    replace xa := xa.later lb
    replace xk := xk.later lb
    replace cu := cu.later lb
    replace cl := cl.later lb
    have B3 := B2.trans (lb.mono B2.size)
    clear B2 lb
    go_wp2_with fail
    rw [← hw, ← hgl, ← hgu]
    clear hw hgu hgl
    refine (fixed5_any w3).mono ?_
    rintro e w4 ⟨rfl, lb⟩
    replace ha := ha.later lb
    replace hk := hk.later lb
    replace xa := xa.later lb
    replace xk := xk.later lb
    replace cu := cu.later lb
    replace cl := cl.later lb
    replace xu := xu.later lb
    replace xl := xl.later lb
    have B4 := B3.trans (lb.mono B3.size)
    clear B3 lb
    go_wp2_with fail
    refine (fixed5_any w4).mono ?_
    rintro e w5 ⟨rfl, lb⟩
    replace ha := ha.later lb
    replace hk := hk.later lb
    replace xa := xa.later lb
    replace xk := xk.later lb
    replace cu := cu.later lb
    replace cl := cl.later lb
    replace xu := xu.later lb
    replace xl := xl.later lb
    have B5 := B4.trans (lb.mono B4.size)
    clear B4 lb
    go_wp2
    go_ret
    exact ⟨rfl, B5⟩
end Go.Proofs.Ytmbemidacilakaa
