/- penumbralaw03.RatOrders: true. -/
import Derived.Test.YtagjjhaokhobhaaAe
namespace Go.Proofs.Ytagjjhaokhobhaa
open Go.RowKit M Kahn

set_option maxRecDepth 100000 in
set_option maxHeartbeats 16000000 in
theorem rorders_any (w : World) (s : Bool) (no : Option Addr) (nn nc : Nat) (eo : Option Addr) (en ec : Nat) (t : Bool) (mo : Option Addr) (mn mc : Nat) (fo : Option Addr) (fn fc : Nat) (r : Bool) (po : Option Addr) (pn pc : Nat) (ho_ : Option Addr) (hn_ hc_ : Nat) (K : Nat) (qa qb qc : Rat) (ha0 : Qn w s no nn nc eo en ec qa K) (hb0 : Qn w t mo mn mc fo fn fc qb K) (hc0 : Qn w r po pn pc ho_ hn_ hc_ qc K) (hK1 : 1 ≤ K) (hK : K ≤ 1048576) :
    Calls Try.prog 8 #[.agg #[.bool s, .slice no nn nc, .slice eo en ec], .agg #[.bool t, .slice mo mn mc, .slice fo fn fc], .agg #[.bool r, .slice po pn pc, .slice ho_ hn_ hc_]] w fun e w' => e = .returned (.bool true) ∧ Below w.heap.size w w' := by
  obtain ⟨w0, hw0, b3, b4, b5, B0, hz⟩ := boxes3 w (.bool s) (.slice no nn nc) (.slice eo en ec) (.bool t) (.slice mo mn mc) (.slice fo fn fc) (.bool r) (.slice po pn pc) (.slice ho_ hn_ hc_)
  have ha := ha0.later B0
  have hb := hb0.later B0
  have hqc := hc0.later B0
  clear ha0 hb0 hc0 hz
  obtain ⟨g, hg⟩ : ∃ g, g = w.heap.size := ⟨_, rfl⟩
  rw [← hg] at b3 b4 b5
  obtain ⟨cb30, cb31, cb32⟩ := b3.cells
  obtain ⟨cb40, cb41, cb42⟩ := b4.cells
  obtain ⟨cb50, cb51, cb52⟩ := b5.cells
  go_enter Try.func8, Try.ntmps8
  go_wp2_with fail
  rw [← hw0, ← hg]
  clear hw0 hg
  refine (ratCmp_k ha hb hK1 hK1 (by omega)).mono ?_
  rintro e w1 ⟨rfl, lb⟩
  replace ha := ha.later lb
  replace hb := hb.later lb
  replace hqc := hqc.later lb
  replace b3 := b3.later lb
  replace b4 := b4.later lb
  replace b5 := b5.later lb
  have B1 := B0.trans (lb.mono B0.size)
  clear B0 lb
  clear cb30 cb31 cb32 cb40 cb41 cb42 cb50 cb51 cb52
  go_wp2
  have HLst : Lst [VV (.bool true), VV (.bool false), VV (.bool false), VV (.agg #[.bool t, .slice mo mn mc, .slice fo fn fc]), VV (.agg #[.bool s, .slice no nn nc, .slice eo en ec]), VV (.int .i64 (qsgn (qb - (qa)))), VV (.int .i64 (qsgn (qa - (qb)))), VV (.int .i64 (-(qsgn (qa - (qb))))), VV (.bool false), VV (.bool false), VV (.bool false), VV (.agg #[.bool s, .slice no nn nc, .slice eo en ec]), VV (.agg #[.bool r, .slice po pn pc, .slice ho_ hn_ hc_]), VL [qa, qc] (K), VC (qa + qc) (2 * (K + 1) + 1), VV (.agg #[.bool t, .slice mo mn mc, .slice fo fn fc]), VV (.agg #[.bool r, .slice po pn pc, .slice ho_ hn_ hc_]), VL [qb, qc] (K), VC (qb + qc) (2 * (K + 1) + 1), VV (.int .i64 (qsgn (qa + qc - (qb + qc)))), VV (.int .i64 (qsgn (qa - (qb)))), VV (.bool false), VV (.bool false), VV (.bool false), VV (.agg #[.bool s, .slice no nn nc, .slice eo en ec]), VV (.agg #[.bool r, .slice po pn pc, .slice ho_ hn_ hc_]), VL [qa, qc] (K), VC (qa * qc) (2 * (K + 1) + 1), VV (.agg #[.bool t, .slice mo mn mc, .slice fo fn fc]), VV (.agg #[.bool r, .slice po pn pc, .slice ho_ hn_ hc_]), VL [qb, qc] (K), VC (qb * qc) (2 * (K + 1) + 1), VV (.int .i64 (qsgn (qa * qc - (qb * qc)))), VV (.int .i64 (qsgn (qa - (qb)))), VV (.agg #[.bool r, .slice po pn pc, .slice ho_ hn_ hc_]), VV (.int .i64 (qsgn (qc))), VV (.int .i64 (qsgn (qa - (qb)) * qsgn (qc))), VV (.bool false)] := ⟨VV.lasts _, VV.lasts _, VV.lasts _, VV.lasts _, VV.lasts _, VV.lasts _, VV.lasts _, VV.lasts _, VV.lasts _, VV.lasts _, VV.lasts _, VV.lasts _, VV.lasts _, VL.lasts _ _, VC.lasts _ _, VV.lasts _, VV.lasts _, VL.lasts _ _, VC.lasts _ _, VV.lasts _, VV.lasts _, VV.lasts _, VV.lasts _, VV.lasts _, VV.lasts _, VV.lasts _, VL.lasts _ _, VC.lasts _ _, VV.lasts _, VV.lasts _, VL.lasts _ _, VC.lasts _ _, VV.lasts _, VV.lasts _, VV.lasts _, VV.lasts _, VV.lasts _, VV.lasts _, trivial⟩
  refine wp_region_kahn 38 93 [([], []), ([(0, 12)], []), ([(1, 13)], []), ([], [4]), ([], [3]), ([(3, 15), (4, 16)], []), ([], [7]), ([(6, 18)], []), ([(5, 17), (7, 19)], []), ([(2, 14), (8, 20)], []), ([(9, 21)], []), ([], [3]), ([], [5]), ([(11, 23), (12, 24)], []), ([(13, 25)], []), ([], [4]), ([], [5]), ([(15, 27), (16, 28)], []), ([(17, 29)], []), ([(14, 26), (18, 30)], []), ([], [7]), ([(19, 31), (20, 32)], []), ([(10, 22), (21, 33)], []), ([(22, 34)], []), ([], [3]), ([], [5]), ([(24, 36), (25, 37)], []), ([(26, 38)], []), ([], [4]), ([], [5]), ([(28, 40), (29, 41)], []), ([(30, 42)], []), ([(27, 39), (31, 43)], []), ([], [7]), ([], [5]), ([(34, 46)], []), ([(33, 45), (35, 47)], []), ([(32, 44), (36, 48)], [])]
    (fun u => Below w1.heap.size w1 u) (fun u u' => Below u.heap.size u u')
    (Sp [VV (.bool true), VV (.bool false), VV (.bool false), VV (.agg #[.bool t, .slice mo mn mc, .slice fo fn fc]), VV (.agg #[.bool s, .slice no nn nc, .slice eo en ec]), VV (.int .i64 (qsgn (qb - (qa)))), VV (.int .i64 (qsgn (qa - (qb)))), VV (.int .i64 (-(qsgn (qa - (qb))))), VV (.bool false), VV (.bool false), VV (.bool false), VV (.agg #[.bool s, .slice no nn nc, .slice eo en ec]), VV (.agg #[.bool r, .slice po pn pc, .slice ho_ hn_ hc_]), VL [qa, qc] (K), VC (qa + qc) (2 * (K + 1) + 1), VV (.agg #[.bool t, .slice mo mn mc, .slice fo fn fc]), VV (.agg #[.bool r, .slice po pn pc, .slice ho_ hn_ hc_]), VL [qb, qc] (K), VC (qb + qc) (2 * (K + 1) + 1), VV (.int .i64 (qsgn (qa + qc - (qb + qc)))), VV (.int .i64 (qsgn (qa - (qb)))), VV (.bool false), VV (.bool false), VV (.bool false), VV (.agg #[.bool s, .slice no nn nc, .slice eo en ec]), VV (.agg #[.bool r, .slice po pn pc, .slice ho_ hn_ hc_]), VL [qa, qc] (K), VC (qa * qc) (2 * (K + 1) + 1), VV (.agg #[.bool t, .slice mo mn mc, .slice fo fn fc]), VV (.agg #[.bool r, .slice po pn pc, .slice ho_ hn_ hc_]), VL [qb, qc] (K), VC (qb * qc) (2 * (K + 1) + 1), VV (.int .i64 (qsgn (qa * qc - (qb * qc)))), VV (.int .i64 (qsgn (qa - (qb)))), VV (.agg #[.bool r, .slice po pn pc, .slice ho_ hn_ hc_]), VV (.int .i64 (qsgn (qc))), VV (.int .i64 (qsgn (qa - (qb)) * qsgn (qc))), VV (.bool false)])
    (by kernel_rfl) rfl (by kernel_rfl) (Below.refl _ _).drew (fun k v u u' _ hg hs => Sp.lasts HLst k v u u' hg hs) ?_ ?_
  · clear HLst
    refine ⟨.inl ⟨by simp, fun ρ u hC hc hf hd ho => ?_⟩, .inl ⟨by simp, fun ρ u hC hc hf hd ho => ?_⟩, .inl ⟨by simp, fun ρ u hC hc hf hd ho => ?_⟩, .inl ⟨guard_of rfl fun _ _ h => h, fun ρ u hC hc hf hd ho => ?_⟩, .inl ⟨guard_of rfl fun _ _ h => h, fun ρ u hC hc hf hd ho => ?_⟩, .inl ⟨guard_of rfl fun _ _ h => h, fun ρ u hC hc hf hd ho => ?_⟩, .inl ⟨guard_of rfl fun _ _ h => h, fun ρ u hC hc hf hd ho => ?_⟩, .inl ⟨guard_of rfl fun _ _ h => h, fun ρ u hC hc hf hd ho => ?_⟩, .inl ⟨guard_of rfl fun _ _ h => h, fun ρ u hC hc hf hd ho => ?_⟩, .inl ⟨by simp, fun ρ u hC hc hf hd ho => ?_⟩, .inl ⟨by simp, fun ρ u hC hc hf hd ho => ?_⟩, .inl ⟨guard_of rfl fun _ _ h => h, fun ρ u hC hc hf hd ho => ?_⟩, .inl ⟨guard_of rfl fun _ _ h => h, fun ρ u hC hc hf hd ho => ?_⟩, .inl ⟨guard_of rfl fun _ _ h => h, fun ρ u hC hc hf hd ho => ?_⟩, .inl ⟨guard_of rfl fun _ _ h => h, fun ρ u hC hc hf hd ho => ?_⟩, .inl ⟨guard_of rfl fun _ _ h => h, fun ρ u hC hc hf hd ho => ?_⟩, .inl ⟨guard_of rfl fun _ _ h => h, fun ρ u hC hc hf hd ho => ?_⟩, .inl ⟨guard_of rfl fun _ _ h => h, fun ρ u hC hc hf hd ho => ?_⟩, .inl ⟨guard_of rfl fun _ _ h => h, fun ρ u hC hc hf hd ho => ?_⟩, .inl ⟨guard_of rfl fun _ _ h => h, fun ρ u hC hc hf hd ho => ?_⟩, .inl ⟨guard_of rfl fun _ _ h => h, fun ρ u hC hc hf hd ho => ?_⟩, .inl ⟨guard_of rfl fun _ _ h => h, fun ρ u hC hc hf hd ho => ?_⟩, .inl ⟨by simp, fun ρ u hC hc hf hd ho => ?_⟩, .inl ⟨by simp, fun ρ u hC hc hf hd ho => ?_⟩, .inl ⟨guard_of rfl fun _ _ h => h, fun ρ u hC hc hf hd ho => ?_⟩, .inl ⟨guard_of rfl fun _ _ h => h, fun ρ u hC hc hf hd ho => ?_⟩, .inl ⟨guard_of rfl fun _ _ h => h, fun ρ u hC hc hf hd ho => ?_⟩, .inl ⟨guard_of rfl fun _ _ h => h, fun ρ u hC hc hf hd ho => ?_⟩, .inl ⟨guard_of rfl fun _ _ h => h, fun ρ u hC hc hf hd ho => ?_⟩, .inl ⟨guard_of rfl fun _ _ h => h, fun ρ u hC hc hf hd ho => ?_⟩, .inl ⟨guard_of rfl fun _ _ h => h, fun ρ u hC hc hf hd ho => ?_⟩, .inl ⟨guard_of rfl fun _ _ h => h, fun ρ u hC hc hf hd ho => ?_⟩, .inl ⟨guard_of rfl fun _ _ h => h, fun ρ u hC hc hf hd ho => ?_⟩, .inl ⟨guard_of rfl fun _ _ h => h, fun ρ u hC hc hf hd ho => ?_⟩, .inl ⟨guard_of rfl fun _ _ h => h, fun ρ u hC hc hf hd ho => ?_⟩, .inl ⟨guard_of rfl fun _ _ h => h, fun ρ u hC hc hf hd ho => ?_⟩, .inl ⟨guard_of rfl fun _ _ h => h, fun ρ u hC hc hf hd ho => ?_⟩, .inl ⟨guard_of rfl fun _ _ h => h, fun ρ u hC hc hf hd ho => ?_⟩, trivial⟩
    · refine Goes.call 9 #[] (by go_simp) ?_
      refine Calls.mono (fixed3_any u) ?_
      rintro e u' ⟨rfl, lb⟩
      exact ⟨_, rfl, hC.trans (lb.mono hC.size), lb, rfl⟩
    · have e12 : ρ (.tmp 12) = .bool true := hd (0, 12) (by simp)
      refine Goes.pure (.bool false) ?_ ⟨hC, Below.refl _ _, rfl⟩
      unfold Goes
      go_simp
    · have e13 : ρ (.tmp 13) = .bool false := hd (1, 13) (by simp)
      refine Goes.pure (.bool false) ?_ ⟨hC, Below.refl _ _, rfl⟩
      unfold Goes
      go_simp
    · have e4 : ρ (.tmp 4) = .pointer (some ⟨g + 1, 0, none⟩) := ho 4 (by simp)
      obtain ⟨c0, c1, c2⟩ := (b4.later hC).cells
      refine Goes.pure (.agg #[.bool t, .slice mo mn mc, .slice fo fn fc]) ?_ ⟨hC, Below.refl _ _, rfl⟩
      unfold Goes
      go_simp
    · have e3 : ρ (.tmp 3) = .pointer (some ⟨g, 0, none⟩) := ho 3 (by simp)
      obtain ⟨c0, c1, c2⟩ := (b3.later hC).cells
      refine Goes.pure (.agg #[.bool s, .slice no nn nc, .slice eo en ec]) ?_ ⟨hC, Below.refl _ _, rfl⟩
      unfold Goes
      go_simp
    · have e15 : ρ (.tmp 15) = .agg #[.bool t, .slice mo mn mc, .slice fo fn fc] := hd (3, 15) (by simp)
      have e16 : ρ (.tmp 16) = .agg #[.bool s, .slice no nn nc, .slice eo en ec] := hd (4, 16) (by simp)
      refine Goes.call 31 #[.agg #[.bool t, .slice mo mn mc, .slice fo fn fc], .agg #[.bool s, .slice no nn nc, .slice eo en ec]] (by go_simp) ?_
      refine Calls.mono (ratCmp_k (hb.later hC) (ha.later hC) (by omega) (by omega) (by omega)) ?_
      rintro e u' ⟨rfl, lb⟩
      exact ⟨_, rfl, hC.trans (lb.mono hC.size), lb, rfl⟩
    · have e7 : ρ (.tmp 7) = .int .i64 (qsgn (qa - (qb))) := ho 7 (by simp)
      refine Goes.pure (.int .i64 (qsgn (qa - (qb)))) ?_ ⟨hC, Below.refl _ _, rfl⟩
      unfold Goes
      go_simp
    · have e18 : ρ (.tmp 18) = .int .i64 (qsgn (qa - (qb))) := hd (6, 18) (by simp)
      have hb0 : IntKind.i64.wrap (-(qsgn (qa - (qb)))) = -(qsgn (qa - (qb))) := i64_small (by have := qsgn_range (qa - qb); omega) (by have := qsgn_range (qa - qb); omega)
      refine Goes.pure (.int .i64 (-(qsgn (qa - (qb))))) ?_ ⟨hC, Below.refl _ _, rfl⟩
      unfold Goes
      go_simp
    · have e17 : ρ (.tmp 17) = .int .i64 (qsgn (qb - (qa))) := hd (5, 17) (by simp)
      have e19 : ρ (.tmp 19) = .int .i64 (-(qsgn (qa - (qb)))) := hd (7, 19) (by simp)
      have hb0 : (qsgn (qb - (qa)) != -(qsgn (qa - (qb)))) = false := by rw [show qb - qa = -(qa - qb) from by grind, qsgn_minus]; simp
      refine Goes.pure (.bool false) ?_ ⟨hC, Below.refl _ _, rfl⟩
      unfold Goes
      go_simp
    · have e14 : ρ (.tmp 14) = .bool false := hd (2, 14) (by simp)
      have e20 : ρ (.tmp 20) = .bool false := hd (8, 20) (by simp)
      refine Goes.pure (.bool false) ?_ ⟨hC, Below.refl _ _, rfl⟩
      unfold Goes
      go_simp
    · have e21 : ρ (.tmp 21) = .bool false := hd (9, 21) (by simp)
      refine Goes.pure (.bool false) ?_ ⟨hC, Below.refl _ _, rfl⟩
      unfold Goes
      go_simp
    · have e3 : ρ (.tmp 3) = .pointer (some ⟨g, 0, none⟩) := ho 3 (by simp)
      obtain ⟨c0, c1, c2⟩ := (b3.later hC).cells
      refine Goes.pure (.agg #[.bool s, .slice no nn nc, .slice eo en ec]) ?_ ⟨hC, Below.refl _ _, rfl⟩
      unfold Goes
      go_simp
    · have e5 : ρ (.tmp 5) = .pointer (some ⟨g + 2, 0, none⟩) := ho 5 (by simp)
      obtain ⟨c0, c1, c2⟩ := (b5.later hC).cells
      refine Goes.pure (.agg #[.bool r, .slice po pn pc, .slice ho_ hn_ hc_]) ?_ ⟨hC, Below.refl _ _, rfl⟩
      unfold Goes
      go_simp
    · have e23 : ρ (.tmp 23) = .agg #[.bool s, .slice no nn nc, .slice eo en ec] := hd (11, 23) (by simp)
      have e24 : ρ (.tmp 24) = .agg #[.bool r, .slice po pn pc, .slice ho_ hn_ hc_] := hd (12, 24) (by simp)
      have lb : Below u.heap.size u (u.alloc (.cells #[.bool s, .slice no nn nc, .slice eo en ec, .bool r, .slice po pn pc, .slice ho_ hn_ hc_] 24)) := (Below.refl _ _).alloc (Nat.le_refl _) _
      refine Goes.run (.slice (some ⟨u.heap.size, 0, none⟩) 2 2) (u.alloc (.cells #[.bool s, .slice no nn nc, .slice eo en ec, .bool r, .slice po pn pc, .slice ho_ hn_ hc_] 24)) (by go_simp) ⟨hC.trans (lb.mono hC.size), lb, ?_⟩
      exact VL.made [⟨s, no, nn, nc, eo, en, ec⟩, ⟨r, po, pn, pc, ho_, hn_, hc_⟩] [qa, qc] ⟨(ha.later hC).mono (by omega), (hqc.later hC).mono (by omega), trivial⟩ _ rfl 2 rfl
    · have k25 : VL [qa, qc] (K) (ρ (.tmp 25)) u := hd (13, 25) (by simp)
      refine Goes.call 25 #[ρ (.tmp 25)] (by go_simp) ?_
      refine Calls.mono (ratSum_k k25 (by omega) (by simp only [List.length_cons, List.length_nil]; omega)) ?_
      rintro e u' ⟨s1, no1, nn1, nc1, eo1, en1, ec1, rfl, cq, lb⟩
      exact ⟨_, rfl, hC.trans (lb.mono hC.size), lb, ⟨s1, no1, nn1, nc1, eo1, en1, ec1, rfl, by rw [qsum2] at cq; exact cq.mono (by simp only [List.length_cons, List.length_nil]; omega)⟩⟩
    · have e4 : ρ (.tmp 4) = .pointer (some ⟨g + 1, 0, none⟩) := ho 4 (by simp)
      obtain ⟨c0, c1, c2⟩ := (b4.later hC).cells
      refine Goes.pure (.agg #[.bool t, .slice mo mn mc, .slice fo fn fc]) ?_ ⟨hC, Below.refl _ _, rfl⟩
      unfold Goes
      go_simp
    · have e5 : ρ (.tmp 5) = .pointer (some ⟨g + 2, 0, none⟩) := ho 5 (by simp)
      obtain ⟨c0, c1, c2⟩ := (b5.later hC).cells
      refine Goes.pure (.agg #[.bool r, .slice po pn pc, .slice ho_ hn_ hc_]) ?_ ⟨hC, Below.refl _ _, rfl⟩
      unfold Goes
      go_simp
    · have e27 : ρ (.tmp 27) = .agg #[.bool t, .slice mo mn mc, .slice fo fn fc] := hd (15, 27) (by simp)
      have e28 : ρ (.tmp 28) = .agg #[.bool r, .slice po pn pc, .slice ho_ hn_ hc_] := hd (16, 28) (by simp)
      have lb : Below u.heap.size u (u.alloc (.cells #[.bool t, .slice mo mn mc, .slice fo fn fc, .bool r, .slice po pn pc, .slice ho_ hn_ hc_] 24)) := (Below.refl _ _).alloc (Nat.le_refl _) _
      refine Goes.run (.slice (some ⟨u.heap.size, 0, none⟩) 2 2) (u.alloc (.cells #[.bool t, .slice mo mn mc, .slice fo fn fc, .bool r, .slice po pn pc, .slice ho_ hn_ hc_] 24)) (by go_simp) ⟨hC.trans (lb.mono hC.size), lb, ?_⟩
      exact VL.made [⟨t, mo, mn, mc, fo, fn, fc⟩, ⟨r, po, pn, pc, ho_, hn_, hc_⟩] [qb, qc] ⟨(hb.later hC).mono (by omega), (hqc.later hC).mono (by omega), trivial⟩ _ rfl 2 rfl
    · have k29 : VL [qb, qc] (K) (ρ (.tmp 29)) u := hd (17, 29) (by simp)
      refine Goes.call 25 #[ρ (.tmp 29)] (by go_simp) ?_
      refine Calls.mono (ratSum_k k29 (by omega) (by simp only [List.length_cons, List.length_nil]; omega)) ?_
      rintro e u' ⟨s1, no1, nn1, nc1, eo1, en1, ec1, rfl, cq, lb⟩
      exact ⟨_, rfl, hC.trans (lb.mono hC.size), lb, ⟨s1, no1, nn1, nc1, eo1, en1, ec1, rfl, by rw [qsum2] at cq; exact cq.mono (by simp only [List.length_cons, List.length_nil]; omega)⟩⟩
    · obtain ⟨s26, no26, nn26, nc26, eo26, en26, ec26, e26, k26⟩ : VC (qa + qc) (2 * (K + 1) + 1) (ρ (.tmp 26)) u := hd (14, 26) (by simp)
      obtain ⟨s30, no30, nn30, nc30, eo30, en30, ec30, e30, k30⟩ : VC (qb + qc) (2 * (K + 1) + 1) (ρ (.tmp 30)) u := hd (18, 30) (by simp)
      refine Goes.call 31 #[.agg #[.bool s26, .slice no26 nn26 nc26, .slice eo26 en26 ec26], .agg #[.bool s30, .slice no30 nn30 nc30, .slice eo30 en30 ec30]] (by go_simp) ?_
      refine Calls.mono (ratCmp_k k26.rd k30.rd (by omega) (by omega) (by omega)) ?_
      rintro e u' ⟨rfl, lb⟩
      exact ⟨_, rfl, hC.trans (lb.mono hC.size), lb, rfl⟩
    · have e7 : ρ (.tmp 7) = .int .i64 (qsgn (qa - (qb))) := ho 7 (by simp)
      refine Goes.pure (.int .i64 (qsgn (qa - (qb)))) ?_ ⟨hC, Below.refl _ _, rfl⟩
      unfold Goes
      go_simp
    · have e31 : ρ (.tmp 31) = .int .i64 (qsgn (qa + qc - (qb + qc))) := hd (19, 31) (by simp)
      have e32 : ρ (.tmp 32) = .int .i64 (qsgn (qa - (qb))) := hd (20, 32) (by simp)
      have hb0 : (qsgn (qa + qc - (qb + qc)) != qsgn (qa - (qb))) = false := by rw [show qa + qc - (qb + qc) = qa - qb from by grind]; simp
      refine Goes.pure (.bool false) ?_ ⟨hC, Below.refl _ _, rfl⟩
      unfold Goes
      go_simp
    · have e22 : ρ (.tmp 22) = .bool false := hd (10, 22) (by simp)
      have e33 : ρ (.tmp 33) = .bool false := hd (21, 33) (by simp)
      refine Goes.pure (.bool false) ?_ ⟨hC, Below.refl _ _, rfl⟩
      unfold Goes
      go_simp
    · have e34 : ρ (.tmp 34) = .bool false := hd (22, 34) (by simp)
      refine Goes.pure (.bool false) ?_ ⟨hC, Below.refl _ _, rfl⟩
      unfold Goes
      go_simp
    · have e3 : ρ (.tmp 3) = .pointer (some ⟨g, 0, none⟩) := ho 3 (by simp)
      obtain ⟨c0, c1, c2⟩ := (b3.later hC).cells
      refine Goes.pure (.agg #[.bool s, .slice no nn nc, .slice eo en ec]) ?_ ⟨hC, Below.refl _ _, rfl⟩
      unfold Goes
      go_simp
    · have e5 : ρ (.tmp 5) = .pointer (some ⟨g + 2, 0, none⟩) := ho 5 (by simp)
      obtain ⟨c0, c1, c2⟩ := (b5.later hC).cells
      refine Goes.pure (.agg #[.bool r, .slice po pn pc, .slice ho_ hn_ hc_]) ?_ ⟨hC, Below.refl _ _, rfl⟩
      unfold Goes
      go_simp
    · have e36 : ρ (.tmp 36) = .agg #[.bool s, .slice no nn nc, .slice eo en ec] := hd (24, 36) (by simp)
      have e37 : ρ (.tmp 37) = .agg #[.bool r, .slice po pn pc, .slice ho_ hn_ hc_] := hd (25, 37) (by simp)
      have lb : Below u.heap.size u (u.alloc (.cells #[.bool s, .slice no nn nc, .slice eo en ec, .bool r, .slice po pn pc, .slice ho_ hn_ hc_] 24)) := (Below.refl _ _).alloc (Nat.le_refl _) _
      refine Goes.run (.slice (some ⟨u.heap.size, 0, none⟩) 2 2) (u.alloc (.cells #[.bool s, .slice no nn nc, .slice eo en ec, .bool r, .slice po pn pc, .slice ho_ hn_ hc_] 24)) (by go_simp) ⟨hC.trans (lb.mono hC.size), lb, ?_⟩
      exact VL.made [⟨s, no, nn, nc, eo, en, ec⟩, ⟨r, po, pn, pc, ho_, hn_, hc_⟩] [qa, qc] ⟨(ha.later hC).mono (by omega), (hqc.later hC).mono (by omega), trivial⟩ _ rfl 2 rfl
    · have k38 : VL [qa, qc] (K) (ρ (.tmp 38)) u := hd (26, 38) (by simp)
      refine Goes.call 29 #[ρ (.tmp 38)] (by go_simp) ?_
      refine Calls.mono (ratProduct_k k38 (by omega) (by simp only [List.length_cons, List.length_nil]; omega)) ?_
      rintro e u' ⟨s1, no1, nn1, nc1, eo1, en1, ec1, rfl, cq, lb⟩
      exact ⟨_, rfl, hC.trans (lb.mono hC.size), lb, ⟨s1, no1, nn1, nc1, eo1, en1, ec1, rfl, by rw [qprod2] at cq; exact cq.mono (by simp only [List.length_cons, List.length_nil]; omega)⟩⟩
    · have e4 : ρ (.tmp 4) = .pointer (some ⟨g + 1, 0, none⟩) := ho 4 (by simp)
      obtain ⟨c0, c1, c2⟩ := (b4.later hC).cells
      refine Goes.pure (.agg #[.bool t, .slice mo mn mc, .slice fo fn fc]) ?_ ⟨hC, Below.refl _ _, rfl⟩
      unfold Goes
      go_simp
    · have e5 : ρ (.tmp 5) = .pointer (some ⟨g + 2, 0, none⟩) := ho 5 (by simp)
      obtain ⟨c0, c1, c2⟩ := (b5.later hC).cells
      refine Goes.pure (.agg #[.bool r, .slice po pn pc, .slice ho_ hn_ hc_]) ?_ ⟨hC, Below.refl _ _, rfl⟩
      unfold Goes
      go_simp
    · have e40 : ρ (.tmp 40) = .agg #[.bool t, .slice mo mn mc, .slice fo fn fc] := hd (28, 40) (by simp)
      have e41 : ρ (.tmp 41) = .agg #[.bool r, .slice po pn pc, .slice ho_ hn_ hc_] := hd (29, 41) (by simp)
      have lb : Below u.heap.size u (u.alloc (.cells #[.bool t, .slice mo mn mc, .slice fo fn fc, .bool r, .slice po pn pc, .slice ho_ hn_ hc_] 24)) := (Below.refl _ _).alloc (Nat.le_refl _) _
      refine Goes.run (.slice (some ⟨u.heap.size, 0, none⟩) 2 2) (u.alloc (.cells #[.bool t, .slice mo mn mc, .slice fo fn fc, .bool r, .slice po pn pc, .slice ho_ hn_ hc_] 24)) (by go_simp) ⟨hC.trans (lb.mono hC.size), lb, ?_⟩
      exact VL.made [⟨t, mo, mn, mc, fo, fn, fc⟩, ⟨r, po, pn, pc, ho_, hn_, hc_⟩] [qb, qc] ⟨(hb.later hC).mono (by omega), (hqc.later hC).mono (by omega), trivial⟩ _ rfl 2 rfl
    · have k42 : VL [qb, qc] (K) (ρ (.tmp 42)) u := hd (30, 42) (by simp)
      refine Goes.call 29 #[ρ (.tmp 42)] (by go_simp) ?_
      refine Calls.mono (ratProduct_k k42 (by omega) (by simp only [List.length_cons, List.length_nil]; omega)) ?_
      rintro e u' ⟨s1, no1, nn1, nc1, eo1, en1, ec1, rfl, cq, lb⟩
      exact ⟨_, rfl, hC.trans (lb.mono hC.size), lb, ⟨s1, no1, nn1, nc1, eo1, en1, ec1, rfl, by rw [qprod2] at cq; exact cq.mono (by simp only [List.length_cons, List.length_nil]; omega)⟩⟩
    · obtain ⟨s39, no39, nn39, nc39, eo39, en39, ec39, e39, k39⟩ : VC (qa * qc) (2 * (K + 1) + 1) (ρ (.tmp 39)) u := hd (27, 39) (by simp)
      obtain ⟨s43, no43, nn43, nc43, eo43, en43, ec43, e43, k43⟩ : VC (qb * qc) (2 * (K + 1) + 1) (ρ (.tmp 43)) u := hd (31, 43) (by simp)
      refine Goes.call 31 #[.agg #[.bool s39, .slice no39 nn39 nc39, .slice eo39 en39 ec39], .agg #[.bool s43, .slice no43 nn43 nc43, .slice eo43 en43 ec43]] (by go_simp) ?_
      refine Calls.mono (ratCmp_k k39.rd k43.rd (by omega) (by omega) (by omega)) ?_
      rintro e u' ⟨rfl, lb⟩
      exact ⟨_, rfl, hC.trans (lb.mono hC.size), lb, rfl⟩
    · have e7 : ρ (.tmp 7) = .int .i64 (qsgn (qa - (qb))) := ho 7 (by simp)
      refine Goes.pure (.int .i64 (qsgn (qa - (qb)))) ?_ ⟨hC, Below.refl _ _, rfl⟩
      unfold Goes
      go_simp
    · have e5 : ρ (.tmp 5) = .pointer (some ⟨g + 2, 0, none⟩) := ho 5 (by simp)
      obtain ⟨c0, c1, c2⟩ := (b5.later hC).cells
      refine Goes.pure (.agg #[.bool r, .slice po pn pc, .slice ho_ hn_ hc_]) ?_ ⟨hC, Below.refl _ _, rfl⟩
      unfold Goes
      go_simp
    · have e46 : ρ (.tmp 46) = .agg #[.bool r, .slice po pn pc, .slice ho_ hn_ hc_] := hd (34, 46) (by simp)
      refine Goes.call 15 #[.agg #[.bool r, .slice po pn pc, .slice ho_ hn_ hc_]] (by go_simp) ?_
      refine Calls.mono (ratSign_k (hqc.later hC) (by omega)) ?_
      rintro e u' ⟨rfl, lb⟩
      exact ⟨_, rfl, hC.trans (lb.mono hC.size), lb, rfl⟩
    · have e45 : ρ (.tmp 45) = .int .i64 (qsgn (qa - (qb))) := hd (33, 45) (by simp)
      have e47 : ρ (.tmp 47) = .int .i64 (qsgn (qc)) := hd (35, 47) (by simp)
      have hb0 : IntKind.i64.wrap (qsgn (qa - (qb)) * qsgn (qc)) = qsgn (qa - (qb)) * qsgn (qc) := by rw [← qsgn_times]; exact i64_small (qsgn_range _).1 (qsgn_range _).2
      refine Goes.pure (.int .i64 (qsgn (qa - (qb)) * qsgn (qc))) ?_ ⟨hC, Below.refl _ _, rfl⟩
      unfold Goes
      go_simp
    · have e44 : ρ (.tmp 44) = .int .i64 (qsgn (qa * qc - (qb * qc))) := hd (32, 44) (by simp)
      have e48 : ρ (.tmp 48) = .int .i64 (qsgn (qa - (qb)) * qsgn (qc)) := hd (36, 48) (by simp)
      have hb0 : (qsgn (qa * qc - (qb * qc)) != qsgn (qa - (qb)) * qsgn (qc)) = false := by rw [show qa * qc - qb * qc = (qa - qb) * qc from by grind, qsgn_times]; simp
      refine Goes.pure (.bool false) ?_ ⟨hC, Below.refl _ _, rfl⟩
      unfold Goes
      go_simp
  · intro vsA w2 lb hv
    have e35 : vsA 23 = .bool false := hv 23 (by omega)
    have e49 : vsA 37 = .bool false := hv 37 (by omega)
    clear hv
    replace ha := ha.later lb
    replace hb := hb.later lb
    replace hqc := hqc.later lb
    replace b3 := b3.later lb
    replace b4 := b4.later lb
    replace b5 := b5.later lb
    have B2 := B1.trans (lb.mono B1.size)
    clear B1 lb
    simp only [puts, List.take, List.drop, Act.put, List.setIfInBounds_toArray, List.set_cons_succ, List.set_cons_zero, Nat.reduceAdd, e35, e49]
    clear e35 e49
    have HT : Hid (qsgn (qa - qb) ≤ 0 → qsgn (qb - qc) ≤ 0 → ¬ 0 < qsgn (qa - qc)) := qsgn_trans
    by_cases h1 : qsgn (qa - qb) ≤ 0
    · obtain ⟨cb30, cb31, cb32⟩ := b3.cells
      obtain ⟨cb40, cb41, cb42⟩ := b4.cells
      obtain ⟨cb50, cb51, cb52⟩ := b5.cells
      go_wp2_with fail
      refine (ratCmp_k hb hqc hK1 hK1 (by omega)).mono ?_
      rintro e w3 ⟨rfl, lb⟩
      replace ha := ha.later lb
      replace hb := hb.later lb
      replace hqc := hqc.later lb
      replace b3 := b3.later lb
      replace b4 := b4.later lb
      replace b5 := b5.later lb
      have B3 := B2.trans (lb.mono B2.size)
      clear B2 lb
      clear cb30 cb31 cb32 cb40 cb41 cb42 cb50 cb51 cb52
      obtain ⟨cb30, cb31, cb32⟩ := b3.cells
      obtain ⟨cb40, cb41, cb42⟩ := b4.cells
      obtain ⟨cb50, cb51, cb52⟩ := b5.cells
      by_cases h2 : qsgn (qb - qc) ≤ 0
      · have h3 : qsgn (qa - qc) ≤ 0 := by have := HT.out h1 h2; omega
        go_wp2_with fail
        refine (ratCmp_k ha hqc hK1 hK1 (by omega)).mono ?_
        rintro e w4 ⟨rfl, lb⟩
        replace ha := ha.later lb
        replace hb := hb.later lb
        replace hqc := hqc.later lb
        replace b3 := b3.later lb
        replace b4 := b4.later lb
        replace b5 := b5.later lb
        have B4 := B3.trans (lb.mono B3.size)
        clear B3 lb
        clear cb30 cb31 cb32 cb40 cb41 cb42 cb50 cb51 cb52
        go_wp2
        clear h1 h2 h3 HT
        have HLst : Lst [VV (.agg #[.bool s, .slice no nn nc, .slice eo en ec]), VV (.agg #[.bool s, .slice no nn nc, .slice eo en ec]), VC (qfl (qa)) (K + 1), VC (qa - (qfl (qa))) (K + (K + 1) + 1), VP w4.heap.size] := ⟨VV.lasts _, VV.lasts _, VC.lasts _ _, VC.lasts _ _, VP.lasts _, trivial⟩
        refine wp_region_kahn 5 93 [([], [3]), ([], [3]), ([(1, 66)], []), ([(0, 65), (2, 67)], []), ([], [])]
          (fun u => Below w4.heap.size w4 u) (fun u u' => Below u.heap.size u u')
          (Sp [VV (.agg #[.bool s, .slice no nn nc, .slice eo en ec]), VV (.agg #[.bool s, .slice no nn nc, .slice eo en ec]), VC (qfl (qa)) (K + 1), VC (qa - (qfl (qa))) (K + (K + 1) + 1), VP w4.heap.size])
          (by kernel_rfl) rfl (by kernel_rfl) (Below.refl _ _).drew (fun k v u u' _ hg hs => Sp.lasts HLst k v u u' hg hs) ?_ ?_
        · clear HLst
          refine ⟨.inl ⟨by simp, fun ρ u hC hc hf hd ho => ?_⟩, .inl ⟨by simp, fun ρ u hC hc hf hd ho => ?_⟩, .inl ⟨by simp, fun ρ u hC hc hf hd ho => ?_⟩, .inl ⟨by simp, fun ρ u hC hc hf hd ho => ?_⟩, .inl ⟨by simp, fun ρ u hC hc hf hd ho => ?_⟩, trivial⟩
          · have e3 : ρ (.tmp 3) = .pointer (some ⟨g, 0, none⟩) := ho 3 (by simp)
            obtain ⟨c0, c1, c2⟩ := (b3.later hC).cells
            refine Goes.pure (.agg #[.bool s, .slice no nn nc, .slice eo en ec]) ?_ ⟨hC, Below.refl _ _, rfl⟩
            unfold Goes
            go_simp
          · have e3 : ρ (.tmp 3) = .pointer (some ⟨g, 0, none⟩) := ho 3 (by simp)
            obtain ⟨c0, c1, c2⟩ := (b3.later hC).cells
            refine Goes.pure (.agg #[.bool s, .slice no nn nc, .slice eo en ec]) ?_ ⟨hC, Below.refl _ _, rfl⟩
            unfold Goes
            go_simp
          · have e66 : ρ (.tmp 66) = .agg #[.bool s, .slice no nn nc, .slice eo en ec] := hd (1, 66) (by simp)
            refine Goes.call 36 #[.agg #[.bool s, .slice no nn nc, .slice eo en ec]] (by go_simp) ?_
            refine Calls.mono (ratFloor_k (ha.later hC) (by omega) (by omega)) ?_
            rintro e u' ⟨s1, no1, nn1, nc1, eo1, en1, ec1, rfl, cq, lb⟩
            exact ⟨_, rfl, hC.trans (lb.mono hC.size), lb, ⟨s1, no1, nn1, nc1, eo1, en1, ec1, rfl, cq⟩⟩
          · have e65 : ρ (.tmp 65) = .agg #[.bool s, .slice no nn nc, .slice eo en ec] := hd (0, 65) (by simp)
            obtain ⟨s67, no67, nn67, nc67, eo67, en67, ec67, e67, k67⟩ : VC (qfl (qa)) (K + 1) (ρ (.tmp 67)) u := hd (2, 67) (by simp)
            refine Goes.call 27 #[.agg #[.bool s, .slice no nn nc, .slice eo en ec], .agg #[.bool s67, .slice no67 nn67 nc67, .slice eo67 en67 ec67]] (by go_simp) ?_
            refine Calls.mono (ratSub_k (ha.later hC) k67.rd (by omega) (by omega) (by omega)) ?_
            rintro e u' ⟨s1, no1, nn1, nc1, eo1, en1, ec1, rfl, cq, lb⟩
            exact ⟨_, rfl, hC.trans (lb.mono hC.size), lb, ⟨s1, no1, nn1, nc1, eo1, en1, ec1, rfl, cq⟩⟩
          · have lb : Below u.heap.size u (u.alloc (.cells #[.bool false, .slice none 0 0, .slice none 0 0] 24)) := (Below.refl _ _).alloc (Nat.le_refl _) _
            refine Goes.run (.pointer (some ⟨u.heap.size, 0, none⟩)) (u.alloc (.cells #[.bool false, .slice none 0 0, .slice none 0 0] 24)) (by go_simp) ⟨hC.trans (lb.mono hC.size), lb, ⟨_, rfl, hC.size, ⟨heap_alloc_new _ _⟩⟩⟩
        · intro vsC w5 lb hv
          obtain ⟨sD, noD, nnD, ncD, eoD, enD, ecD, e68, cqD⟩ : VC (qa - (qfl (qa))) (K + (K + 1) + 1) (vsC 3) w5 := hv 3 (by omega)
          obtain ⟨gD, e8, hgD, bD⟩ : VP w4.heap.size (vsC 4) w5 := hv 4 (by omega)
          clear hv
          have nb3 : g ≠ gD := Nat.ne_of_lt (Nat.lt_of_lt_of_le b3.lt hgD)
          have nb4 : g + 1 ≠ gD := Nat.ne_of_lt (Nat.lt_of_lt_of_le b4.lt hgD)
          have nb5 : g + 2 ≠ gD := Nat.ne_of_lt (Nat.lt_of_lt_of_le b5.lt hgD)
          have hgD2 : w.heap.size ≤ gD := Nat.le_trans B4.size hgD
          clear hgD
          replace ha := ha.later lb
          replace hb := hb.later lb
          replace hqc := hqc.later lb
          replace b3 := b3.later lb
          replace b4 := b4.later lb
          replace b5 := b5.later lb
          have B5 := B4.trans (lb.mono B4.size)
          clear B4 lb
          simp only [puts, List.take, List.drop, Act.put, List.setIfInBounds_toArray, List.set_cons_succ, List.set_cons_zero, Nat.reduceAdd, e68, e8]
          clear e68 e8
          obtain ⟨r0, r1, r2⟩ := bD.cells
          have f0 := bD.free 0
          have f1 := bD.free 1
          have f2 := bD.free 2
          have fr := Rb.putFr gD w5 (.bool sD) (.slice noD nnD ncD) (.slice eoD enD ecD)
          replace ha := ha.store bD fr
          replace hb := hb.store bD fr
          replace hqc := hqc.store bD fr
          replace cqD := cqD.store bD fr
          replace b3 := b3.keep (fr.block _ nb3)
          replace b4 := b4.keep (fr.block _ nb4)
          replace b5 := b5.keep (fr.block _ nb5)
          have B6 := B5.trans (fr.below hgD2)
          replace bD := bD.put (.bool sD) (.slice noD nnD ncD) (.slice eoD enD ecD)
          clear fr B5 hgD2 nb3 nb4 nb5
          go_wp2
          clear r0 r1 r2 f0 f1 f2
          generalize ((w5.setCell ⟨gD, 0, none⟩ (.bool sD)).setCell ⟨gD, 1, none⟩ (.slice noD nnD ncD)).setCell ⟨gD, 2, none⟩ (.slice eoD enD ecD) = w6 at *
          have HF : Hid (0 ≤ qsgn (qa - (qfl (qa))) ∧ qsgn (qa - (qfl (qa)) - (((1 : Int) : Rat) / ((1 : Int) : Rat))) < 0) := by
            have h := floor_rest qa
            rw [show (((1 : Int) : Rat) / ((1 : Int) : Rat)) = 1 from by decide +kernel]
            exact h
          have HLst : Lst [VV (.agg #[.bool sD, .slice noD nnD ncD, .slice eoD enD ecD]), VV (.int .i64 (qsgn (qa - (qfl (qa))))), VV (.bool true), VV (.bool true), VV (.agg #[.bool sD, .slice noD nnD ncD, .slice eoD enD ecD]), VC ((((1 : Int) : Rat) / ((1 : Int) : Rat))) (2), VV (.int .i64 (qsgn (qa - (qfl (qa)) - ((((1 : Int) : Rat) / ((1 : Int) : Rat)))))), VV (.bool true), VV (.bool true), VV (.bool true), VV (.agg #[.bool s, .slice no nn nc, .slice eo en ec]), VC (qfl (qa)) (K + 1), VN ((qfl (qa)).den) (K + 1), VN (1) (1), VV (.bool true), VV (.bool true), VV (.bool true), VV (.agg #[.bool s, .slice no nn nc, .slice eo en ec]), VV (.agg #[.bool t, .slice mo mn mc, .slice fo fn fc]), VC (qa - (qb)) (K + (K) + 1), VV (.int .i64 (qsgn (qa - (qb)))), VV (.int .i64 (qsgn (qa - (qb)))), VV (.bool true), VV (.bool true)] := ⟨VV.lasts _, VV.lasts _, VV.lasts _, VV.lasts _, VV.lasts _, VC.lasts _ _, VV.lasts _, VV.lasts _, VV.lasts _, VV.lasts _, VV.lasts _, VC.lasts _ _, VN.lasts _ _, VN.lasts _ _, VV.lasts _, VV.lasts _, VV.lasts _, VV.lasts _, VV.lasts _, VC.lasts _ _, VV.lasts _, VV.lasts _, VV.lasts _, VV.lasts _, trivial⟩
          refine wp_region_kahn 24 93 [([], [8]), ([(0, 69)], []), ([(1, 70)], []), ([(2, 71)], []), ([], [8]), ([], []), ([(4, 73), (5, 74)], []), ([(6, 75)], []), ([(3, 72), (7, 76)], []), ([(8, 77)], []), ([], [3]), ([(10, 79)], []), ([(11, 80)], []), ([], []), ([(12, 81), (13, 82)], []), ([(9, 78), (14, 83)], []), ([(15, 84)], []), ([], [3]), ([], [4]), ([(17, 86), (18, 87)], []), ([(19, 88)], []), ([], [7]), ([(20, 89), (21, 90)], []), ([(16, 85), (22, 91)], [])]
            (fun u => Below w6.heap.size w6 u) (fun u u' => Below u.heap.size u u')
            (Sp [VV (.agg #[.bool sD, .slice noD nnD ncD, .slice eoD enD ecD]), VV (.int .i64 (qsgn (qa - (qfl (qa))))), VV (.bool true), VV (.bool true), VV (.agg #[.bool sD, .slice noD nnD ncD, .slice eoD enD ecD]), VC ((((1 : Int) : Rat) / ((1 : Int) : Rat))) (2), VV (.int .i64 (qsgn (qa - (qfl (qa)) - ((((1 : Int) : Rat) / ((1 : Int) : Rat)))))), VV (.bool true), VV (.bool true), VV (.bool true), VV (.agg #[.bool s, .slice no nn nc, .slice eo en ec]), VC (qfl (qa)) (K + 1), VN ((qfl (qa)).den) (K + 1), VN (1) (1), VV (.bool true), VV (.bool true), VV (.bool true), VV (.agg #[.bool s, .slice no nn nc, .slice eo en ec]), VV (.agg #[.bool t, .slice mo mn mc, .slice fo fn fc]), VC (qa - (qb)) (K + (K) + 1), VV (.int .i64 (qsgn (qa - (qb)))), VV (.int .i64 (qsgn (qa - (qb)))), VV (.bool true), VV (.bool true)])
            (by kernel_rfl) rfl (by kernel_rfl) (Below.refl _ _).drew (fun k v u u' _ hg hs => Sp.lasts HLst k v u u' hg hs) ?_ ?_
          · clear HLst
            refine ⟨.inl ⟨by simp, fun ρ u hC hc hf hd ho => ?_⟩, .inl ⟨by simp, fun ρ u hC hc hf hd ho => ?_⟩, .inl ⟨by simp, fun ρ u hC hc hf hd ho => ?_⟩, .inl ⟨by simp, fun ρ u hC hc hf hd ho => ?_⟩, .inl ⟨guard_of rfl fun _ _ h => h, fun ρ u hC hc hf hd ho => ?_⟩, .inl ⟨guard_of rfl fun _ _ h => h, fun ρ u hC hc hf hd ho => ?_⟩, .inl ⟨guard_of rfl fun _ _ h => h, fun ρ u hC hc hf hd ho => ?_⟩, .inl ⟨guard_of rfl fun _ _ h => h, fun ρ u hC hc hf hd ho => ?_⟩, .inl ⟨by simp, fun ρ u hC hc hf hd ho => ?_⟩, .inl ⟨by simp, fun ρ u hC hc hf hd ho => ?_⟩, .inl ⟨guard_of rfl fun _ _ h => h, fun ρ u hC hc hf hd ho => ?_⟩, .inl ⟨guard_of rfl fun _ _ h => h, fun ρ u hC hc hf hd ho => ?_⟩, .inl ⟨guard_of rfl fun _ _ h => h, fun ρ u hC hc hf hd ho => ?_⟩, .inl ⟨guard_of rfl fun _ _ h => h, fun ρ u hC hc hf hd ho => ?_⟩, .inl ⟨guard_of rfl fun _ _ h => h, fun ρ u hC hc hf hd ho => ?_⟩, .inl ⟨by simp, fun ρ u hC hc hf hd ho => ?_⟩, .inl ⟨by simp, fun ρ u hC hc hf hd ho => ?_⟩, .inl ⟨guard_of rfl fun _ _ h => h, fun ρ u hC hc hf hd ho => ?_⟩, .inl ⟨guard_of rfl fun _ _ h => h, fun ρ u hC hc hf hd ho => ?_⟩, .inl ⟨guard_of rfl fun _ _ h => h, fun ρ u hC hc hf hd ho => ?_⟩, .inl ⟨guard_of rfl fun _ _ h => h, fun ρ u hC hc hf hd ho => ?_⟩, .inl ⟨guard_of rfl fun _ _ h => h, fun ρ u hC hc hf hd ho => ?_⟩, .inl ⟨guard_of rfl fun _ _ h => h, fun ρ u hC hc hf hd ho => ?_⟩, .inl ⟨by simp, fun ρ u hC hc hf hd ho => ?_⟩, trivial⟩
            · have e8 : ρ (.tmp 8) = .pointer (some ⟨gD, 0, none⟩) := ho 8 (by simp)
              obtain ⟨c0, c1, c2⟩ := (bD.later hC).cells
              refine Goes.pure (.agg #[.bool sD, .slice noD nnD ncD, .slice eoD enD ecD]) ?_ ⟨hC, Below.refl _ _, rfl⟩
              unfold Goes
              go_simp
            · have e69 : ρ (.tmp 69) = .agg #[.bool sD, .slice noD nnD ncD, .slice eoD enD ecD] := hd (0, 69) (by simp)
              refine Goes.call 15 #[.agg #[.bool sD, .slice noD nnD ncD, .slice eoD enD ecD]] (by go_simp) ?_
              refine Calls.mono (ratSign_k (cqD.later hC).rd (by omega)) ?_
              rintro e u' ⟨rfl, lb⟩
              exact ⟨_, rfl, hC.trans (lb.mono hC.size), lb, rfl⟩
            · have e70 : ρ (.tmp 70) = .int .i64 (qsgn (qa - (qfl (qa)))) := hd (1, 70) (by simp)
              have hb0 : 0 ≤ qsgn (qa - (qfl (qa))) := HF.out.1
              generalize qsgn (qa - (qfl (qa))) = zz at *
              refine Goes.pure (.bool true) ?_ ⟨hC, Below.refl _ _, rfl⟩
              unfold Goes
              go_simp
            · have e71 : ρ (.tmp 71) = .bool true := hd (2, 71) (by simp)
              refine Goes.pure (.bool true) ?_ ⟨hC, Below.refl _ _, rfl⟩
              unfold Goes
              go_simp
            · have e8 : ρ (.tmp 8) = .pointer (some ⟨gD, 0, none⟩) := ho 8 (by simp)
              obtain ⟨c0, c1, c2⟩ := (bD.later hC).cells
              refine Goes.pure (.agg #[.bool sD, .slice noD nnD ncD, .slice eoD enD ecD]) ?_ ⟨hC, Below.refl _ _, rfl⟩
              unfold Goes
              go_simp
            · refine Goes.call 21 #[.int .i64 1, .int .i64 1] (by go_simp) ?_
              refine Calls.mono (ratOf_k 1 1 (by omega) (by omega) (by omega) (by omega)) ?_
              rintro e u' ⟨s1, no1, nn1, nc1, eo1, en1, ec1, rfl, cq, lb⟩
              exact ⟨_, rfl, hC.trans (lb.mono hC.size), lb, ⟨s1, no1, nn1, nc1, eo1, en1, ec1, rfl, cq⟩⟩
            · have e73 : ρ (.tmp 73) = .agg #[.bool sD, .slice noD nnD ncD, .slice eoD enD ecD] := hd (4, 73) (by simp)
              obtain ⟨s74, no74, nn74, nc74, eo74, en74, ec74, e74, k74⟩ : VC ((((1 : Int) : Rat) / ((1 : Int) : Rat))) (2) (ρ (.tmp 74)) u := hd (5, 74) (by simp)
              refine Goes.call 31 #[.agg #[.bool sD, .slice noD nnD ncD, .slice eoD enD ecD], .agg #[.bool s74, .slice no74 nn74 nc74, .slice eo74 en74 ec74]] (by go_simp) ?_
              refine Calls.mono (ratCmp_k (cqD.later hC).rd k74.rd (by omega) (by omega) (by omega)) ?_
              rintro e u' ⟨rfl, lb⟩
              exact ⟨_, rfl, hC.trans (lb.mono hC.size), lb, rfl⟩
            · have e75 : ρ (.tmp 75) = .int .i64 (qsgn (qa - (qfl (qa)) - ((((1 : Int) : Rat) / ((1 : Int) : Rat))))) := hd (6, 75) (by simp)
              have hb0 : qsgn (qa - (qfl (qa)) - ((((1 : Int) : Rat) / ((1 : Int) : Rat)))) < 0 := HF.out.2
              generalize qsgn (qa - (qfl (qa)) - ((((1 : Int) : Rat) / ((1 : Int) : Rat)))) = zz at *
              refine Goes.pure (.bool true) ?_ ⟨hC, Below.refl _ _, rfl⟩
              unfold Goes
              go_simp
            · have e72 : ρ (.tmp 72) = .bool true := hd (3, 72) (by simp)
              have e76 : ρ (.tmp 76) = .bool true := hd (7, 76) (by simp)
              refine Goes.pure (.bool true) ?_ ⟨hC, Below.refl _ _, rfl⟩
              unfold Goes
              go_simp
            · have e77 : ρ (.tmp 77) = .bool true := hd (8, 77) (by simp)
              refine Goes.pure (.bool true) ?_ ⟨hC, Below.refl _ _, rfl⟩
              unfold Goes
              go_simp
            · have e3 : ρ (.tmp 3) = .pointer (some ⟨g, 0, none⟩) := ho 3 (by simp)
              obtain ⟨c0, c1, c2⟩ := (b3.later hC).cells
              refine Goes.pure (.agg #[.bool s, .slice no nn nc, .slice eo en ec]) ?_ ⟨hC, Below.refl _ _, rfl⟩
              unfold Goes
              go_simp
            · have e79 : ρ (.tmp 79) = .agg #[.bool s, .slice no nn nc, .slice eo en ec] := hd (10, 79) (by simp)
              refine Goes.call 36 #[.agg #[.bool s, .slice no nn nc, .slice eo en ec]] (by go_simp) ?_
              refine Calls.mono (ratFloor_k (ha.later hC) (by omega) (by omega)) ?_
              rintro e u' ⟨s1, no1, nn1, nc1, eo1, en1, ec1, rfl, cq, lb⟩
              exact ⟨_, rfl, hC.trans (lb.mono hC.size), lb, ⟨s1, no1, nn1, nc1, eo1, en1, ec1, rfl, cq⟩⟩
            · obtain ⟨s80, no80, nn80, nc80, eo80, en80, ec80, e80, k80⟩ : VC (qfl (qa)) (K + 1) (ρ (.tmp 80)) u := hd (11, 80) (by simp)
              have hf0 := field_den u s80 no80 nn80 nc80 eo80 en80 ec80
              refine Goes.pure (.slice eo80 en80 ec80) ?_ ⟨hC, Below.refl _ _, ⟨eo80, en80, ec80, rfl, k80.den, k80.ld⟩⟩
              unfold Goes
              go_simp
            · obtain ⟨sl, lb⟩ := lit1 u 1 [1] #[.int .u32 1] rfl (lim1 (by omega)) rfl
              refine Goes.run (.slice (some ⟨u.heap.size, 0, none⟩) 1 1) (u.alloc (.cells #[.int .u32 1] 40)) (by go_simp) ⟨hC.trans (lb.mono hC.size), lb, ?_⟩
              exact ⟨_, 1, 1, rfl, by rw [show toL 1 = [1] from toL_is rfl (lim1 (by omega)) (.inr (by simp))]; exact sl, by omega⟩
            · obtain ⟨o81, n81, c81, e81, k81, j81⟩ : VN ((qfl (qa)).den) (K + 1) (ρ (.tmp 81)) u := hd (12, 81) (by simp)
              obtain ⟨o82, n82, c82, e82, k82, j82⟩ : VN (1) (1) (ρ (.tmp 82)) u := hd (13, 82) (by simp)
              refine Goes.call 38 #[.slice o81 n81 c81, .slice o82 n82 c82] (by go_simp) ?_
              refine Calls.mono (same_k k81 k82 (congrArg toL (show (qfl (qa)).den = 1 from rfl)) (by omega)) ?_
              rintro e u' ⟨rfl, lb⟩
              exact ⟨_, rfl, hC.trans (lb.mono hC.size), lb, rfl⟩
            · have e78 : ρ (.tmp 78) = .bool true := hd (9, 78) (by simp)
              have e83 : ρ (.tmp 83) = .bool true := hd (14, 83) (by simp)
              refine Goes.pure (.bool true) ?_ ⟨hC, Below.refl _ _, rfl⟩
              unfold Goes
              go_simp
            · have e84 : ρ (.tmp 84) = .bool true := hd (15, 84) (by simp)
              refine Goes.pure (.bool true) ?_ ⟨hC, Below.refl _ _, rfl⟩
              unfold Goes
              go_simp
            · have e3 : ρ (.tmp 3) = .pointer (some ⟨g, 0, none⟩) := ho 3 (by simp)
              obtain ⟨c0, c1, c2⟩ := (b3.later hC).cells
              refine Goes.pure (.agg #[.bool s, .slice no nn nc, .slice eo en ec]) ?_ ⟨hC, Below.refl _ _, rfl⟩
              unfold Goes
              go_simp
            · have e4 : ρ (.tmp 4) = .pointer (some ⟨g + 1, 0, none⟩) := ho 4 (by simp)
              obtain ⟨c0, c1, c2⟩ := (b4.later hC).cells
              refine Goes.pure (.agg #[.bool t, .slice mo mn mc, .slice fo fn fc]) ?_ ⟨hC, Below.refl _ _, rfl⟩
              unfold Goes
              go_simp
            · have e86 : ρ (.tmp 86) = .agg #[.bool s, .slice no nn nc, .slice eo en ec] := hd (17, 86) (by simp)
              have e87 : ρ (.tmp 87) = .agg #[.bool t, .slice mo mn mc, .slice fo fn fc] := hd (18, 87) (by simp)
              refine Goes.call 27 #[.agg #[.bool s, .slice no nn nc, .slice eo en ec], .agg #[.bool t, .slice mo mn mc, .slice fo fn fc]] (by go_simp) ?_
              refine Calls.mono (ratSub_k (ha.later hC) (hb.later hC) (by omega) (by omega) (by omega)) ?_
              rintro e u' ⟨s1, no1, nn1, nc1, eo1, en1, ec1, rfl, cq, lb⟩
              exact ⟨_, rfl, hC.trans (lb.mono hC.size), lb, ⟨s1, no1, nn1, nc1, eo1, en1, ec1, rfl, cq⟩⟩
            · obtain ⟨s88, no88, nn88, nc88, eo88, en88, ec88, e88, k88⟩ : VC (qa - (qb)) (K + (K) + 1) (ρ (.tmp 88)) u := hd (19, 88) (by simp)
              refine Goes.call 15 #[.agg #[.bool s88, .slice no88 nn88 nc88, .slice eo88 en88 ec88]] (by go_simp) ?_
              refine Calls.mono (ratSign_k k88.rd (by omega)) ?_
              rintro e u' ⟨rfl, lb⟩
              exact ⟨_, rfl, hC.trans (lb.mono hC.size), lb, rfl⟩
            · have e7 : ρ (.tmp 7) = .int .i64 (qsgn (qa - (qb))) := ho 7 (by simp)
              refine Goes.pure (.int .i64 (qsgn (qa - (qb)))) ?_ ⟨hC, Below.refl _ _, rfl⟩
              unfold Goes
              go_simp
            · have e89 : ρ (.tmp 89) = .int .i64 (qsgn (qa - (qb))) := hd (20, 89) (by simp)
              have e90 : ρ (.tmp 90) = .int .i64 (qsgn (qa - (qb))) := hd (21, 90) (by simp)
              have hb0 : (qsgn (qa - (qb)) == qsgn (qa - (qb))) = true := by simp
              generalize qsgn (qa - (qb)) = zz at *
              refine Goes.pure (.bool true) ?_ ⟨hC, Below.refl _ _, rfl⟩
              unfold Goes
              go_simp
            · have e85 : ρ (.tmp 85) = .bool true := hd (16, 85) (by simp)
              have e91 : ρ (.tmp 91) = .bool true := hd (22, 91) (by simp)
              refine Goes.pure (.bool true) ?_ ⟨hC, Below.refl _ _, rfl⟩
              unfold Goes
              go_simp
          · intro vs u hC hv
            have eR : vs 23 = .bool true := hv 23 (by omega)
            clear hv
            simp only [puts, List.take, List.drop, Act.put, List.setIfInBounds_toArray, List.set_cons_succ, List.set_cons_zero, Nat.reduceAdd, eR]
            go_wp2
            go_ret
            exact ⟨rfl, B6.trans (hC.mono B6.size)⟩
      · clear cb30 cb31 cb32 cb40 cb41 cb42 cb50 cb51 cb52
        have h3 : 0 < qsgn (qb - qc) := Int.not_le.1 h2
        go_wp2
        clear h1 h2 h3 HT
        have HLst : Lst [VV (.agg #[.bool s, .slice no nn nc, .slice eo en ec]), VV (.agg #[.bool s, .slice no nn nc, .slice eo en ec]), VC (qfl (qa)) (K + 1), VC (qa - (qfl (qa))) (K + (K + 1) + 1), VP w3.heap.size] := ⟨VV.lasts _, VV.lasts _, VC.lasts _ _, VC.lasts _ _, VP.lasts _, trivial⟩
        refine wp_region_kahn 5 93 [([], [3]), ([], [3]), ([(1, 66)], []), ([(0, 65), (2, 67)], []), ([], [])]
          (fun u => Below w3.heap.size w3 u) (fun u u' => Below u.heap.size u u')
          (Sp [VV (.agg #[.bool s, .slice no nn nc, .slice eo en ec]), VV (.agg #[.bool s, .slice no nn nc, .slice eo en ec]), VC (qfl (qa)) (K + 1), VC (qa - (qfl (qa))) (K + (K + 1) + 1), VP w3.heap.size])
          (by kernel_rfl) rfl (by kernel_rfl) (Below.refl _ _).drew (fun k v u u' _ hg hs => Sp.lasts HLst k v u u' hg hs) ?_ ?_
        · clear HLst
          refine ⟨.inl ⟨by simp, fun ρ u hC hc hf hd ho => ?_⟩, .inl ⟨by simp, fun ρ u hC hc hf hd ho => ?_⟩, .inl ⟨by simp, fun ρ u hC hc hf hd ho => ?_⟩, .inl ⟨by simp, fun ρ u hC hc hf hd ho => ?_⟩, .inl ⟨by simp, fun ρ u hC hc hf hd ho => ?_⟩, trivial⟩
          · have e3 : ρ (.tmp 3) = .pointer (some ⟨g, 0, none⟩) := ho 3 (by simp)
            obtain ⟨c0, c1, c2⟩ := (b3.later hC).cells
            refine Goes.pure (.agg #[.bool s, .slice no nn nc, .slice eo en ec]) ?_ ⟨hC, Below.refl _ _, rfl⟩
            unfold Goes
            go_simp
          · have e3 : ρ (.tmp 3) = .pointer (some ⟨g, 0, none⟩) := ho 3 (by simp)
            obtain ⟨c0, c1, c2⟩ := (b3.later hC).cells
            refine Goes.pure (.agg #[.bool s, .slice no nn nc, .slice eo en ec]) ?_ ⟨hC, Below.refl _ _, rfl⟩
            unfold Goes
            go_simp
          · have e66 : ρ (.tmp 66) = .agg #[.bool s, .slice no nn nc, .slice eo en ec] := hd (1, 66) (by simp)
            refine Goes.call 36 #[.agg #[.bool s, .slice no nn nc, .slice eo en ec]] (by go_simp) ?_
            refine Calls.mono (ratFloor_k (ha.later hC) (by omega) (by omega)) ?_
            rintro e u' ⟨s1, no1, nn1, nc1, eo1, en1, ec1, rfl, cq, lb⟩
            exact ⟨_, rfl, hC.trans (lb.mono hC.size), lb, ⟨s1, no1, nn1, nc1, eo1, en1, ec1, rfl, cq⟩⟩
          · have e65 : ρ (.tmp 65) = .agg #[.bool s, .slice no nn nc, .slice eo en ec] := hd (0, 65) (by simp)
            obtain ⟨s67, no67, nn67, nc67, eo67, en67, ec67, e67, k67⟩ : VC (qfl (qa)) (K + 1) (ρ (.tmp 67)) u := hd (2, 67) (by simp)
            refine Goes.call 27 #[.agg #[.bool s, .slice no nn nc, .slice eo en ec], .agg #[.bool s67, .slice no67 nn67 nc67, .slice eo67 en67 ec67]] (by go_simp) ?_
            refine Calls.mono (ratSub_k (ha.later hC) k67.rd (by omega) (by omega) (by omega)) ?_
            rintro e u' ⟨s1, no1, nn1, nc1, eo1, en1, ec1, rfl, cq, lb⟩
            exact ⟨_, rfl, hC.trans (lb.mono hC.size), lb, ⟨s1, no1, nn1, nc1, eo1, en1, ec1, rfl, cq⟩⟩
          · have lb : Below u.heap.size u (u.alloc (.cells #[.bool false, .slice none 0 0, .slice none 0 0] 24)) := (Below.refl _ _).alloc (Nat.le_refl _) _
            refine Goes.run (.pointer (some ⟨u.heap.size, 0, none⟩)) (u.alloc (.cells #[.bool false, .slice none 0 0, .slice none 0 0] 24)) (by go_simp) ⟨hC.trans (lb.mono hC.size), lb, ⟨_, rfl, hC.size, ⟨heap_alloc_new _ _⟩⟩⟩
        · intro vsC w4 lb hv
          obtain ⟨sD, noD, nnD, ncD, eoD, enD, ecD, e68, cqD⟩ : VC (qa - (qfl (qa))) (K + (K + 1) + 1) (vsC 3) w4 := hv 3 (by omega)
          obtain ⟨gD, e8, hgD, bD⟩ : VP w3.heap.size (vsC 4) w4 := hv 4 (by omega)
          clear hv
          have nb3 : g ≠ gD := Nat.ne_of_lt (Nat.lt_of_lt_of_le b3.lt hgD)
          have nb4 : g + 1 ≠ gD := Nat.ne_of_lt (Nat.lt_of_lt_of_le b4.lt hgD)
          have nb5 : g + 2 ≠ gD := Nat.ne_of_lt (Nat.lt_of_lt_of_le b5.lt hgD)
          have hgD2 : w.heap.size ≤ gD := Nat.le_trans B3.size hgD
          clear hgD
          replace ha := ha.later lb
          replace hb := hb.later lb
          replace hqc := hqc.later lb
          replace b3 := b3.later lb
          replace b4 := b4.later lb
          replace b5 := b5.later lb
          have B4 := B3.trans (lb.mono B3.size)
          clear B3 lb
          simp only [puts, List.take, List.drop, Act.put, List.setIfInBounds_toArray, List.set_cons_succ, List.set_cons_zero, Nat.reduceAdd, e68, e8]
          clear e68 e8
          obtain ⟨r0, r1, r2⟩ := bD.cells
          have f0 := bD.free 0
          have f1 := bD.free 1
          have f2 := bD.free 2
          have fr := Rb.putFr gD w4 (.bool sD) (.slice noD nnD ncD) (.slice eoD enD ecD)
          replace ha := ha.store bD fr
          replace hb := hb.store bD fr
          replace hqc := hqc.store bD fr
          replace cqD := cqD.store bD fr
          replace b3 := b3.keep (fr.block _ nb3)
          replace b4 := b4.keep (fr.block _ nb4)
          replace b5 := b5.keep (fr.block _ nb5)
          have B5 := B4.trans (fr.below hgD2)
          replace bD := bD.put (.bool sD) (.slice noD nnD ncD) (.slice eoD enD ecD)
          clear fr B4 hgD2 nb3 nb4 nb5
          go_wp2
          clear r0 r1 r2 f0 f1 f2
          generalize ((w4.setCell ⟨gD, 0, none⟩ (.bool sD)).setCell ⟨gD, 1, none⟩ (.slice noD nnD ncD)).setCell ⟨gD, 2, none⟩ (.slice eoD enD ecD) = w5 at *
          have HF : Hid (0 ≤ qsgn (qa - (qfl (qa))) ∧ qsgn (qa - (qfl (qa)) - (((1 : Int) : Rat) / ((1 : Int) : Rat))) < 0) := by
            have h := floor_rest qa
            rw [show (((1 : Int) : Rat) / ((1 : Int) : Rat)) = 1 from by decide +kernel]
            exact h
          have HLst : Lst [VV (.agg #[.bool sD, .slice noD nnD ncD, .slice eoD enD ecD]), VV (.int .i64 (qsgn (qa - (qfl (qa))))), VV (.bool true), VV (.bool true), VV (.agg #[.bool sD, .slice noD nnD ncD, .slice eoD enD ecD]), VC ((((1 : Int) : Rat) / ((1 : Int) : Rat))) (2), VV (.int .i64 (qsgn (qa - (qfl (qa)) - ((((1 : Int) : Rat) / ((1 : Int) : Rat)))))), VV (.bool true), VV (.bool true), VV (.bool true), VV (.agg #[.bool s, .slice no nn nc, .slice eo en ec]), VC (qfl (qa)) (K + 1), VN ((qfl (qa)).den) (K + 1), VN (1) (1), VV (.bool true), VV (.bool true), VV (.bool true), VV (.agg #[.bool s, .slice no nn nc, .slice eo en ec]), VV (.agg #[.bool t, .slice mo mn mc, .slice fo fn fc]), VC (qa - (qb)) (K + (K) + 1), VV (.int .i64 (qsgn (qa - (qb)))), VV (.int .i64 (qsgn (qa - (qb)))), VV (.bool true), VV (.bool true)] := ⟨VV.lasts _, VV.lasts _, VV.lasts _, VV.lasts _, VV.lasts _, VC.lasts _ _, VV.lasts _, VV.lasts _, VV.lasts _, VV.lasts _, VV.lasts _, VC.lasts _ _, VN.lasts _ _, VN.lasts _ _, VV.lasts _, VV.lasts _, VV.lasts _, VV.lasts _, VV.lasts _, VC.lasts _ _, VV.lasts _, VV.lasts _, VV.lasts _, VV.lasts _, trivial⟩
          refine wp_region_kahn 24 93 [([], [8]), ([(0, 69)], []), ([(1, 70)], []), ([(2, 71)], []), ([], [8]), ([], []), ([(4, 73), (5, 74)], []), ([(6, 75)], []), ([(3, 72), (7, 76)], []), ([(8, 77)], []), ([], [3]), ([(10, 79)], []), ([(11, 80)], []), ([], []), ([(12, 81), (13, 82)], []), ([(9, 78), (14, 83)], []), ([(15, 84)], []), ([], [3]), ([], [4]), ([(17, 86), (18, 87)], []), ([(19, 88)], []), ([], [7]), ([(20, 89), (21, 90)], []), ([(16, 85), (22, 91)], [])]
            (fun u => Below w5.heap.size w5 u) (fun u u' => Below u.heap.size u u')
            (Sp [VV (.agg #[.bool sD, .slice noD nnD ncD, .slice eoD enD ecD]), VV (.int .i64 (qsgn (qa - (qfl (qa))))), VV (.bool true), VV (.bool true), VV (.agg #[.bool sD, .slice noD nnD ncD, .slice eoD enD ecD]), VC ((((1 : Int) : Rat) / ((1 : Int) : Rat))) (2), VV (.int .i64 (qsgn (qa - (qfl (qa)) - ((((1 : Int) : Rat) / ((1 : Int) : Rat)))))), VV (.bool true), VV (.bool true), VV (.bool true), VV (.agg #[.bool s, .slice no nn nc, .slice eo en ec]), VC (qfl (qa)) (K + 1), VN ((qfl (qa)).den) (K + 1), VN (1) (1), VV (.bool true), VV (.bool true), VV (.bool true), VV (.agg #[.bool s, .slice no nn nc, .slice eo en ec]), VV (.agg #[.bool t, .slice mo mn mc, .slice fo fn fc]), VC (qa - (qb)) (K + (K) + 1), VV (.int .i64 (qsgn (qa - (qb)))), VV (.int .i64 (qsgn (qa - (qb)))), VV (.bool true), VV (.bool true)])
            (by kernel_rfl) rfl (by kernel_rfl) (Below.refl _ _).drew (fun k v u u' _ hg hs => Sp.lasts HLst k v u u' hg hs) ?_ ?_
          · clear HLst
            refine ⟨.inl ⟨by simp, fun ρ u hC hc hf hd ho => ?_⟩, .inl ⟨by simp, fun ρ u hC hc hf hd ho => ?_⟩, .inl ⟨by simp, fun ρ u hC hc hf hd ho => ?_⟩, .inl ⟨by simp, fun ρ u hC hc hf hd ho => ?_⟩, .inl ⟨guard_of rfl fun _ _ h => h, fun ρ u hC hc hf hd ho => ?_⟩, .inl ⟨guard_of rfl fun _ _ h => h, fun ρ u hC hc hf hd ho => ?_⟩, .inl ⟨guard_of rfl fun _ _ h => h, fun ρ u hC hc hf hd ho => ?_⟩, .inl ⟨guard_of rfl fun _ _ h => h, fun ρ u hC hc hf hd ho => ?_⟩, .inl ⟨by simp, fun ρ u hC hc hf hd ho => ?_⟩, .inl ⟨by simp, fun ρ u hC hc hf hd ho => ?_⟩, .inl ⟨guard_of rfl fun _ _ h => h, fun ρ u hC hc hf hd ho => ?_⟩, .inl ⟨guard_of rfl fun _ _ h => h, fun ρ u hC hc hf hd ho => ?_⟩, .inl ⟨guard_of rfl fun _ _ h => h, fun ρ u hC hc hf hd ho => ?_⟩, .inl ⟨guard_of rfl fun _ _ h => h, fun ρ u hC hc hf hd ho => ?_⟩, .inl ⟨guard_of rfl fun _ _ h => h, fun ρ u hC hc hf hd ho => ?_⟩, .inl ⟨by simp, fun ρ u hC hc hf hd ho => ?_⟩, .inl ⟨by simp, fun ρ u hC hc hf hd ho => ?_⟩, .inl ⟨guard_of rfl fun _ _ h => h, fun ρ u hC hc hf hd ho => ?_⟩, .inl ⟨guard_of rfl fun _ _ h => h, fun ρ u hC hc hf hd ho => ?_⟩, .inl ⟨guard_of rfl fun _ _ h => h, fun ρ u hC hc hf hd ho => ?_⟩, .inl ⟨guard_of rfl fun _ _ h => h, fun ρ u hC hc hf hd ho => ?_⟩, .inl ⟨guard_of rfl fun _ _ h => h, fun ρ u hC hc hf hd ho => ?_⟩, .inl ⟨guard_of rfl fun _ _ h => h, fun ρ u hC hc hf hd ho => ?_⟩, .inl ⟨by simp, fun ρ u hC hc hf hd ho => ?_⟩, trivial⟩
            · have e8 : ρ (.tmp 8) = .pointer (some ⟨gD, 0, none⟩) := ho 8 (by simp)
              obtain ⟨c0, c1, c2⟩ := (bD.later hC).cells
              refine Goes.pure (.agg #[.bool sD, .slice noD nnD ncD, .slice eoD enD ecD]) ?_ ⟨hC, Below.refl _ _, rfl⟩
              unfold Goes
              go_simp
            · have e69 : ρ (.tmp 69) = .agg #[.bool sD, .slice noD nnD ncD, .slice eoD enD ecD] := hd (0, 69) (by simp)
              refine Goes.call 15 #[.agg #[.bool sD, .slice noD nnD ncD, .slice eoD enD ecD]] (by go_simp) ?_
              refine Calls.mono (ratSign_k (cqD.later hC).rd (by omega)) ?_
              rintro e u' ⟨rfl, lb⟩
              exact ⟨_, rfl, hC.trans (lb.mono hC.size), lb, rfl⟩
            · have e70 : ρ (.tmp 70) = .int .i64 (qsgn (qa - (qfl (qa)))) := hd (1, 70) (by simp)
              have hb0 : 0 ≤ qsgn (qa - (qfl (qa))) := HF.out.1
              generalize qsgn (qa - (qfl (qa))) = zz at *
              refine Goes.pure (.bool true) ?_ ⟨hC, Below.refl _ _, rfl⟩
              unfold Goes
              go_simp
            · have e71 : ρ (.tmp 71) = .bool true := hd (2, 71) (by simp)
              refine Goes.pure (.bool true) ?_ ⟨hC, Below.refl _ _, rfl⟩
              unfold Goes
              go_simp
            · have e8 : ρ (.tmp 8) = .pointer (some ⟨gD, 0, none⟩) := ho 8 (by simp)
              obtain ⟨c0, c1, c2⟩ := (bD.later hC).cells
              refine Goes.pure (.agg #[.bool sD, .slice noD nnD ncD, .slice eoD enD ecD]) ?_ ⟨hC, Below.refl _ _, rfl⟩
              unfold Goes
              go_simp
            · refine Goes.call 21 #[.int .i64 1, .int .i64 1] (by go_simp) ?_
              refine Calls.mono (ratOf_k 1 1 (by omega) (by omega) (by omega) (by omega)) ?_
              rintro e u' ⟨s1, no1, nn1, nc1, eo1, en1, ec1, rfl, cq, lb⟩
              exact ⟨_, rfl, hC.trans (lb.mono hC.size), lb, ⟨s1, no1, nn1, nc1, eo1, en1, ec1, rfl, cq⟩⟩
            · have e73 : ρ (.tmp 73) = .agg #[.bool sD, .slice noD nnD ncD, .slice eoD enD ecD] := hd (4, 73) (by simp)
              obtain ⟨s74, no74, nn74, nc74, eo74, en74, ec74, e74, k74⟩ : VC ((((1 : Int) : Rat) / ((1 : Int) : Rat))) (2) (ρ (.tmp 74)) u := hd (5, 74) (by simp)
              refine Goes.call 31 #[.agg #[.bool sD, .slice noD nnD ncD, .slice eoD enD ecD], .agg #[.bool s74, .slice no74 nn74 nc74, .slice eo74 en74 ec74]] (by go_simp) ?_
              refine Calls.mono (ratCmp_k (cqD.later hC).rd k74.rd (by omega) (by omega) (by omega)) ?_
              rintro e u' ⟨rfl, lb⟩
              exact ⟨_, rfl, hC.trans (lb.mono hC.size), lb, rfl⟩
            · have e75 : ρ (.tmp 75) = .int .i64 (qsgn (qa - (qfl (qa)) - ((((1 : Int) : Rat) / ((1 : Int) : Rat))))) := hd (6, 75) (by simp)
              have hb0 : qsgn (qa - (qfl (qa)) - ((((1 : Int) : Rat) / ((1 : Int) : Rat)))) < 0 := HF.out.2
              generalize qsgn (qa - (qfl (qa)) - ((((1 : Int) : Rat) / ((1 : Int) : Rat)))) = zz at *
              refine Goes.pure (.bool true) ?_ ⟨hC, Below.refl _ _, rfl⟩
              unfold Goes
              go_simp
            · have e72 : ρ (.tmp 72) = .bool true := hd (3, 72) (by simp)
              have e76 : ρ (.tmp 76) = .bool true := hd (7, 76) (by simp)
              refine Goes.pure (.bool true) ?_ ⟨hC, Below.refl _ _, rfl⟩
              unfold Goes
              go_simp
            · have e77 : ρ (.tmp 77) = .bool true := hd (8, 77) (by simp)
              refine Goes.pure (.bool true) ?_ ⟨hC, Below.refl _ _, rfl⟩
              unfold Goes
              go_simp
            · have e3 : ρ (.tmp 3) = .pointer (some ⟨g, 0, none⟩) := ho 3 (by simp)
              obtain ⟨c0, c1, c2⟩ := (b3.later hC).cells
              refine Goes.pure (.agg #[.bool s, .slice no nn nc, .slice eo en ec]) ?_ ⟨hC, Below.refl _ _, rfl⟩
              unfold Goes
              go_simp
            · have e79 : ρ (.tmp 79) = .agg #[.bool s, .slice no nn nc, .slice eo en ec] := hd (10, 79) (by simp)
              refine Goes.call 36 #[.agg #[.bool s, .slice no nn nc, .slice eo en ec]] (by go_simp) ?_
              refine Calls.mono (ratFloor_k (ha.later hC) (by omega) (by omega)) ?_
              rintro e u' ⟨s1, no1, nn1, nc1, eo1, en1, ec1, rfl, cq, lb⟩
              exact ⟨_, rfl, hC.trans (lb.mono hC.size), lb, ⟨s1, no1, nn1, nc1, eo1, en1, ec1, rfl, cq⟩⟩
            · obtain ⟨s80, no80, nn80, nc80, eo80, en80, ec80, e80, k80⟩ : VC (qfl (qa)) (K + 1) (ρ (.tmp 80)) u := hd (11, 80) (by simp)
              have hf0 := field_den u s80 no80 nn80 nc80 eo80 en80 ec80
              refine Goes.pure (.slice eo80 en80 ec80) ?_ ⟨hC, Below.refl _ _, ⟨eo80, en80, ec80, rfl, k80.den, k80.ld⟩⟩
              unfold Goes
              go_simp
            · obtain ⟨sl, lb⟩ := lit1 u 1 [1] #[.int .u32 1] rfl (lim1 (by omega)) rfl
              refine Goes.run (.slice (some ⟨u.heap.size, 0, none⟩) 1 1) (u.alloc (.cells #[.int .u32 1] 40)) (by go_simp) ⟨hC.trans (lb.mono hC.size), lb, ?_⟩
              exact ⟨_, 1, 1, rfl, by rw [show toL 1 = [1] from toL_is rfl (lim1 (by omega)) (.inr (by simp))]; exact sl, by omega⟩
            · obtain ⟨o81, n81, c81, e81, k81, j81⟩ : VN ((qfl (qa)).den) (K + 1) (ρ (.tmp 81)) u := hd (12, 81) (by simp)
              obtain ⟨o82, n82, c82, e82, k82, j82⟩ : VN (1) (1) (ρ (.tmp 82)) u := hd (13, 82) (by simp)
              refine Goes.call 38 #[.slice o81 n81 c81, .slice o82 n82 c82] (by go_simp) ?_
              refine Calls.mono (same_k k81 k82 (congrArg toL (show (qfl (qa)).den = 1 from rfl)) (by omega)) ?_
              rintro e u' ⟨rfl, lb⟩
              exact ⟨_, rfl, hC.trans (lb.mono hC.size), lb, rfl⟩
            · have e78 : ρ (.tmp 78) = .bool true := hd (9, 78) (by simp)
              have e83 : ρ (.tmp 83) = .bool true := hd (14, 83) (by simp)
              refine Goes.pure (.bool true) ?_ ⟨hC, Below.refl _ _, rfl⟩
              unfold Goes
              go_simp
            · have e84 : ρ (.tmp 84) = .bool true := hd (15, 84) (by simp)
              refine Goes.pure (.bool true) ?_ ⟨hC, Below.refl _ _, rfl⟩
              unfold Goes
              go_simp
            · have e3 : ρ (.tmp 3) = .pointer (some ⟨g, 0, none⟩) := ho 3 (by simp)
              obtain ⟨c0, c1, c2⟩ := (b3.later hC).cells
              refine Goes.pure (.agg #[.bool s, .slice no nn nc, .slice eo en ec]) ?_ ⟨hC, Below.refl _ _, rfl⟩
              unfold Goes
              go_simp
            · have e4 : ρ (.tmp 4) = .pointer (some ⟨g + 1, 0, none⟩) := ho 4 (by simp)
              obtain ⟨c0, c1, c2⟩ := (b4.later hC).cells
              refine Goes.pure (.agg #[.bool t, .slice mo mn mc, .slice fo fn fc]) ?_ ⟨hC, Below.refl _ _, rfl⟩
              unfold Goes
              go_simp
            · have e86 : ρ (.tmp 86) = .agg #[.bool s, .slice no nn nc, .slice eo en ec] := hd (17, 86) (by simp)
              have e87 : ρ (.tmp 87) = .agg #[.bool t, .slice mo mn mc, .slice fo fn fc] := hd (18, 87) (by simp)
              refine Goes.call 27 #[.agg #[.bool s, .slice no nn nc, .slice eo en ec], .agg #[.bool t, .slice mo mn mc, .slice fo fn fc]] (by go_simp) ?_
              refine Calls.mono (ratSub_k (ha.later hC) (hb.later hC) (by omega) (by omega) (by omega)) ?_
              rintro e u' ⟨s1, no1, nn1, nc1, eo1, en1, ec1, rfl, cq, lb⟩
              exact ⟨_, rfl, hC.trans (lb.mono hC.size), lb, ⟨s1, no1, nn1, nc1, eo1, en1, ec1, rfl, cq⟩⟩
            · obtain ⟨s88, no88, nn88, nc88, eo88, en88, ec88, e88, k88⟩ : VC (qa - (qb)) (K + (K) + 1) (ρ (.tmp 88)) u := hd (19, 88) (by simp)
              refine Goes.call 15 #[.agg #[.bool s88, .slice no88 nn88 nc88, .slice eo88 en88 ec88]] (by go_simp) ?_
              refine Calls.mono (ratSign_k k88.rd (by omega)) ?_
              rintro e u' ⟨rfl, lb⟩
              exact ⟨_, rfl, hC.trans (lb.mono hC.size), lb, rfl⟩
            · have e7 : ρ (.tmp 7) = .int .i64 (qsgn (qa - (qb))) := ho 7 (by simp)
              refine Goes.pure (.int .i64 (qsgn (qa - (qb)))) ?_ ⟨hC, Below.refl _ _, rfl⟩
              unfold Goes
              go_simp
            · have e89 : ρ (.tmp 89) = .int .i64 (qsgn (qa - (qb))) := hd (20, 89) (by simp)
              have e90 : ρ (.tmp 90) = .int .i64 (qsgn (qa - (qb))) := hd (21, 90) (by simp)
              have hb0 : (qsgn (qa - (qb)) == qsgn (qa - (qb))) = true := by simp
              generalize qsgn (qa - (qb)) = zz at *
              refine Goes.pure (.bool true) ?_ ⟨hC, Below.refl _ _, rfl⟩
              unfold Goes
              go_simp
            · have e85 : ρ (.tmp 85) = .bool true := hd (16, 85) (by simp)
              have e91 : ρ (.tmp 91) = .bool true := hd (22, 91) (by simp)
              refine Goes.pure (.bool true) ?_ ⟨hC, Below.refl _ _, rfl⟩
              unfold Goes
              go_simp
          · intro vs u hC hv
            have eR : vs 23 = .bool true := hv 23 (by omega)
            clear hv
            simp only [puts, List.take, List.drop, Act.put, List.setIfInBounds_toArray, List.set_cons_succ, List.set_cons_zero, Nat.reduceAdd, eR]
            go_wp2
            go_ret
            exact ⟨rfl, B5.trans (hC.mono B5.size)⟩
    · have h3 : 0 < qsgn (qa - qb) := Int.not_le.1 h1
      go_wp2
      clear h1 h3 HT
      have HLst : Lst [VV (.agg #[.bool s, .slice no nn nc, .slice eo en ec]), VV (.agg #[.bool s, .slice no nn nc, .slice eo en ec]), VC (qfl (qa)) (K + 1), VC (qa - (qfl (qa))) (K + (K + 1) + 1), VP w2.heap.size] := ⟨VV.lasts _, VV.lasts _, VC.lasts _ _, VC.lasts _ _, VP.lasts _, trivial⟩
      refine wp_region_kahn 5 93 [([], [3]), ([], [3]), ([(1, 66)], []), ([(0, 65), (2, 67)], []), ([], [])]
        (fun u => Below w2.heap.size w2 u) (fun u u' => Below u.heap.size u u')
        (Sp [VV (.agg #[.bool s, .slice no nn nc, .slice eo en ec]), VV (.agg #[.bool s, .slice no nn nc, .slice eo en ec]), VC (qfl (qa)) (K + 1), VC (qa - (qfl (qa))) (K + (K + 1) + 1), VP w2.heap.size])
        (by kernel_rfl) rfl (by kernel_rfl) (Below.refl _ _).drew (fun k v u u' _ hg hs => Sp.lasts HLst k v u u' hg hs) ?_ ?_
      · clear HLst
        refine ⟨.inl ⟨by simp, fun ρ u hC hc hf hd ho => ?_⟩, .inl ⟨by simp, fun ρ u hC hc hf hd ho => ?_⟩, .inl ⟨by simp, fun ρ u hC hc hf hd ho => ?_⟩, .inl ⟨by simp, fun ρ u hC hc hf hd ho => ?_⟩, .inl ⟨by simp, fun ρ u hC hc hf hd ho => ?_⟩, trivial⟩
        · have e3 : ρ (.tmp 3) = .pointer (some ⟨g, 0, none⟩) := ho 3 (by simp)
          obtain ⟨c0, c1, c2⟩ := (b3.later hC).cells
          refine Goes.pure (.agg #[.bool s, .slice no nn nc, .slice eo en ec]) ?_ ⟨hC, Below.refl _ _, rfl⟩
          unfold Goes
          go_simp
        · have e3 : ρ (.tmp 3) = .pointer (some ⟨g, 0, none⟩) := ho 3 (by simp)
          obtain ⟨c0, c1, c2⟩ := (b3.later hC).cells
          refine Goes.pure (.agg #[.bool s, .slice no nn nc, .slice eo en ec]) ?_ ⟨hC, Below.refl _ _, rfl⟩
          unfold Goes
          go_simp
        · have e66 : ρ (.tmp 66) = .agg #[.bool s, .slice no nn nc, .slice eo en ec] := hd (1, 66) (by simp)
          refine Goes.call 36 #[.agg #[.bool s, .slice no nn nc, .slice eo en ec]] (by go_simp) ?_
          refine Calls.mono (ratFloor_k (ha.later hC) (by omega) (by omega)) ?_
          rintro e u' ⟨s1, no1, nn1, nc1, eo1, en1, ec1, rfl, cq, lb⟩
          exact ⟨_, rfl, hC.trans (lb.mono hC.size), lb, ⟨s1, no1, nn1, nc1, eo1, en1, ec1, rfl, cq⟩⟩
        · have e65 : ρ (.tmp 65) = .agg #[.bool s, .slice no nn nc, .slice eo en ec] := hd (0, 65) (by simp)
          obtain ⟨s67, no67, nn67, nc67, eo67, en67, ec67, e67, k67⟩ : VC (qfl (qa)) (K + 1) (ρ (.tmp 67)) u := hd (2, 67) (by simp)
          refine Goes.call 27 #[.agg #[.bool s, .slice no nn nc, .slice eo en ec], .agg #[.bool s67, .slice no67 nn67 nc67, .slice eo67 en67 ec67]] (by go_simp) ?_
          refine Calls.mono (ratSub_k (ha.later hC) k67.rd (by omega) (by omega) (by omega)) ?_
          rintro e u' ⟨s1, no1, nn1, nc1, eo1, en1, ec1, rfl, cq, lb⟩
          exact ⟨_, rfl, hC.trans (lb.mono hC.size), lb, ⟨s1, no1, nn1, nc1, eo1, en1, ec1, rfl, cq⟩⟩
        · have lb : Below u.heap.size u (u.alloc (.cells #[.bool false, .slice none 0 0, .slice none 0 0] 24)) := (Below.refl _ _).alloc (Nat.le_refl _) _
          refine Goes.run (.pointer (some ⟨u.heap.size, 0, none⟩)) (u.alloc (.cells #[.bool false, .slice none 0 0, .slice none 0 0] 24)) (by go_simp) ⟨hC.trans (lb.mono hC.size), lb, ⟨_, rfl, hC.size, ⟨heap_alloc_new _ _⟩⟩⟩
      · intro vsC w3 lb hv
        obtain ⟨sD, noD, nnD, ncD, eoD, enD, ecD, e68, cqD⟩ : VC (qa - (qfl (qa))) (K + (K + 1) + 1) (vsC 3) w3 := hv 3 (by omega)
        obtain ⟨gD, e8, hgD, bD⟩ : VP w2.heap.size (vsC 4) w3 := hv 4 (by omega)
        clear hv
        have nb3 : g ≠ gD := Nat.ne_of_lt (Nat.lt_of_lt_of_le b3.lt hgD)
        have nb4 : g + 1 ≠ gD := Nat.ne_of_lt (Nat.lt_of_lt_of_le b4.lt hgD)
        have nb5 : g + 2 ≠ gD := Nat.ne_of_lt (Nat.lt_of_lt_of_le b5.lt hgD)
        have hgD2 : w.heap.size ≤ gD := Nat.le_trans B2.size hgD
        clear hgD
        replace ha := ha.later lb
        replace hb := hb.later lb
        replace hqc := hqc.later lb
        replace b3 := b3.later lb
        replace b4 := b4.later lb
        replace b5 := b5.later lb
        have B3 := B2.trans (lb.mono B2.size)
        clear B2 lb
        simp only [puts, List.take, List.drop, Act.put, List.setIfInBounds_toArray, List.set_cons_succ, List.set_cons_zero, Nat.reduceAdd, e68, e8]
        clear e68 e8
        obtain ⟨r0, r1, r2⟩ := bD.cells
        have f0 := bD.free 0
        have f1 := bD.free 1
        have f2 := bD.free 2
        have fr := Rb.putFr gD w3 (.bool sD) (.slice noD nnD ncD) (.slice eoD enD ecD)
        replace ha := ha.store bD fr
        replace hb := hb.store bD fr
        replace hqc := hqc.store bD fr
        replace cqD := cqD.store bD fr
        replace b3 := b3.keep (fr.block _ nb3)
        replace b4 := b4.keep (fr.block _ nb4)
        replace b5 := b5.keep (fr.block _ nb5)
        have B4 := B3.trans (fr.below hgD2)
        replace bD := bD.put (.bool sD) (.slice noD nnD ncD) (.slice eoD enD ecD)
        clear fr B3 hgD2 nb3 nb4 nb5
        go_wp2
        clear r0 r1 r2 f0 f1 f2
        generalize ((w3.setCell ⟨gD, 0, none⟩ (.bool sD)).setCell ⟨gD, 1, none⟩ (.slice noD nnD ncD)).setCell ⟨gD, 2, none⟩ (.slice eoD enD ecD) = w4 at *
        have HF : Hid (0 ≤ qsgn (qa - (qfl (qa))) ∧ qsgn (qa - (qfl (qa)) - (((1 : Int) : Rat) / ((1 : Int) : Rat))) < 0) := by
          have h := floor_rest qa
          rw [show (((1 : Int) : Rat) / ((1 : Int) : Rat)) = 1 from by decide +kernel]
          exact h
        have HLst : Lst [VV (.agg #[.bool sD, .slice noD nnD ncD, .slice eoD enD ecD]), VV (.int .i64 (qsgn (qa - (qfl (qa))))), VV (.bool true), VV (.bool true), VV (.agg #[.bool sD, .slice noD nnD ncD, .slice eoD enD ecD]), VC ((((1 : Int) : Rat) / ((1 : Int) : Rat))) (2), VV (.int .i64 (qsgn (qa - (qfl (qa)) - ((((1 : Int) : Rat) / ((1 : Int) : Rat)))))), VV (.bool true), VV (.bool true), VV (.bool true), VV (.agg #[.bool s, .slice no nn nc, .slice eo en ec]), VC (qfl (qa)) (K + 1), VN ((qfl (qa)).den) (K + 1), VN (1) (1), VV (.bool true), VV (.bool true), VV (.bool true), VV (.agg #[.bool s, .slice no nn nc, .slice eo en ec]), VV (.agg #[.bool t, .slice mo mn mc, .slice fo fn fc]), VC (qa - (qb)) (K + (K) + 1), VV (.int .i64 (qsgn (qa - (qb)))), VV (.int .i64 (qsgn (qa - (qb)))), VV (.bool true), VV (.bool true)] := ⟨VV.lasts _, VV.lasts _, VV.lasts _, VV.lasts _, VV.lasts _, VC.lasts _ _, VV.lasts _, VV.lasts _, VV.lasts _, VV.lasts _, VV.lasts _, VC.lasts _ _, VN.lasts _ _, VN.lasts _ _, VV.lasts _, VV.lasts _, VV.lasts _, VV.lasts _, VV.lasts _, VC.lasts _ _, VV.lasts _, VV.lasts _, VV.lasts _, VV.lasts _, trivial⟩
        refine wp_region_kahn 24 93 [([], [8]), ([(0, 69)], []), ([(1, 70)], []), ([(2, 71)], []), ([], [8]), ([], []), ([(4, 73), (5, 74)], []), ([(6, 75)], []), ([(3, 72), (7, 76)], []), ([(8, 77)], []), ([], [3]), ([(10, 79)], []), ([(11, 80)], []), ([], []), ([(12, 81), (13, 82)], []), ([(9, 78), (14, 83)], []), ([(15, 84)], []), ([], [3]), ([], [4]), ([(17, 86), (18, 87)], []), ([(19, 88)], []), ([], [7]), ([(20, 89), (21, 90)], []), ([(16, 85), (22, 91)], [])]
          (fun u => Below w4.heap.size w4 u) (fun u u' => Below u.heap.size u u')
          (Sp [VV (.agg #[.bool sD, .slice noD nnD ncD, .slice eoD enD ecD]), VV (.int .i64 (qsgn (qa - (qfl (qa))))), VV (.bool true), VV (.bool true), VV (.agg #[.bool sD, .slice noD nnD ncD, .slice eoD enD ecD]), VC ((((1 : Int) : Rat) / ((1 : Int) : Rat))) (2), VV (.int .i64 (qsgn (qa - (qfl (qa)) - ((((1 : Int) : Rat) / ((1 : Int) : Rat)))))), VV (.bool true), VV (.bool true), VV (.bool true), VV (.agg #[.bool s, .slice no nn nc, .slice eo en ec]), VC (qfl (qa)) (K + 1), VN ((qfl (qa)).den) (K + 1), VN (1) (1), VV (.bool true), VV (.bool true), VV (.bool true), VV (.agg #[.bool s, .slice no nn nc, .slice eo en ec]), VV (.agg #[.bool t, .slice mo mn mc, .slice fo fn fc]), VC (qa - (qb)) (K + (K) + 1), VV (.int .i64 (qsgn (qa - (qb)))), VV (.int .i64 (qsgn (qa - (qb)))), VV (.bool true), VV (.bool true)])
          (by kernel_rfl) rfl (by kernel_rfl) (Below.refl _ _).drew (fun k v u u' _ hg hs => Sp.lasts HLst k v u u' hg hs) ?_ ?_
        · clear HLst
          refine ⟨.inl ⟨by simp, fun ρ u hC hc hf hd ho => ?_⟩, .inl ⟨by simp, fun ρ u hC hc hf hd ho => ?_⟩, .inl ⟨by simp, fun ρ u hC hc hf hd ho => ?_⟩, .inl ⟨by simp, fun ρ u hC hc hf hd ho => ?_⟩, .inl ⟨guard_of rfl fun _ _ h => h, fun ρ u hC hc hf hd ho => ?_⟩, .inl ⟨guard_of rfl fun _ _ h => h, fun ρ u hC hc hf hd ho => ?_⟩, .inl ⟨guard_of rfl fun _ _ h => h, fun ρ u hC hc hf hd ho => ?_⟩, .inl ⟨guard_of rfl fun _ _ h => h, fun ρ u hC hc hf hd ho => ?_⟩, .inl ⟨by simp, fun ρ u hC hc hf hd ho => ?_⟩, .inl ⟨by simp, fun ρ u hC hc hf hd ho => ?_⟩, .inl ⟨guard_of rfl fun _ _ h => h, fun ρ u hC hc hf hd ho => ?_⟩, .inl ⟨guard_of rfl fun _ _ h => h, fun ρ u hC hc hf hd ho => ?_⟩, .inl ⟨guard_of rfl fun _ _ h => h, fun ρ u hC hc hf hd ho => ?_⟩, .inl ⟨guard_of rfl fun _ _ h => h, fun ρ u hC hc hf hd ho => ?_⟩, .inl ⟨guard_of rfl fun _ _ h => h, fun ρ u hC hc hf hd ho => ?_⟩, .inl ⟨by simp, fun ρ u hC hc hf hd ho => ?_⟩, .inl ⟨by simp, fun ρ u hC hc hf hd ho => ?_⟩, .inl ⟨guard_of rfl fun _ _ h => h, fun ρ u hC hc hf hd ho => ?_⟩, .inl ⟨guard_of rfl fun _ _ h => h, fun ρ u hC hc hf hd ho => ?_⟩, .inl ⟨guard_of rfl fun _ _ h => h, fun ρ u hC hc hf hd ho => ?_⟩, .inl ⟨guard_of rfl fun _ _ h => h, fun ρ u hC hc hf hd ho => ?_⟩, .inl ⟨guard_of rfl fun _ _ h => h, fun ρ u hC hc hf hd ho => ?_⟩, .inl ⟨guard_of rfl fun _ _ h => h, fun ρ u hC hc hf hd ho => ?_⟩, .inl ⟨by simp, fun ρ u hC hc hf hd ho => ?_⟩, trivial⟩
          · have e8 : ρ (.tmp 8) = .pointer (some ⟨gD, 0, none⟩) := ho 8 (by simp)
            obtain ⟨c0, c1, c2⟩ := (bD.later hC).cells
            refine Goes.pure (.agg #[.bool sD, .slice noD nnD ncD, .slice eoD enD ecD]) ?_ ⟨hC, Below.refl _ _, rfl⟩
            unfold Goes
            go_simp
          · have e69 : ρ (.tmp 69) = .agg #[.bool sD, .slice noD nnD ncD, .slice eoD enD ecD] := hd (0, 69) (by simp)
            refine Goes.call 15 #[.agg #[.bool sD, .slice noD nnD ncD, .slice eoD enD ecD]] (by go_simp) ?_
            refine Calls.mono (ratSign_k (cqD.later hC).rd (by omega)) ?_
            rintro e u' ⟨rfl, lb⟩
            exact ⟨_, rfl, hC.trans (lb.mono hC.size), lb, rfl⟩
          · have e70 : ρ (.tmp 70) = .int .i64 (qsgn (qa - (qfl (qa)))) := hd (1, 70) (by simp)
            have hb0 : 0 ≤ qsgn (qa - (qfl (qa))) := HF.out.1
            generalize qsgn (qa - (qfl (qa))) = zz at *
            refine Goes.pure (.bool true) ?_ ⟨hC, Below.refl _ _, rfl⟩
            unfold Goes
            go_simp
          · have e71 : ρ (.tmp 71) = .bool true := hd (2, 71) (by simp)
            refine Goes.pure (.bool true) ?_ ⟨hC, Below.refl _ _, rfl⟩
            unfold Goes
            go_simp
          · have e8 : ρ (.tmp 8) = .pointer (some ⟨gD, 0, none⟩) := ho 8 (by simp)
            obtain ⟨c0, c1, c2⟩ := (bD.later hC).cells
            refine Goes.pure (.agg #[.bool sD, .slice noD nnD ncD, .slice eoD enD ecD]) ?_ ⟨hC, Below.refl _ _, rfl⟩
            unfold Goes
            go_simp
          · refine Goes.call 21 #[.int .i64 1, .int .i64 1] (by go_simp) ?_
            refine Calls.mono (ratOf_k 1 1 (by omega) (by omega) (by omega) (by omega)) ?_
            rintro e u' ⟨s1, no1, nn1, nc1, eo1, en1, ec1, rfl, cq, lb⟩
            exact ⟨_, rfl, hC.trans (lb.mono hC.size), lb, ⟨s1, no1, nn1, nc1, eo1, en1, ec1, rfl, cq⟩⟩
          · have e73 : ρ (.tmp 73) = .agg #[.bool sD, .slice noD nnD ncD, .slice eoD enD ecD] := hd (4, 73) (by simp)
            obtain ⟨s74, no74, nn74, nc74, eo74, en74, ec74, e74, k74⟩ : VC ((((1 : Int) : Rat) / ((1 : Int) : Rat))) (2) (ρ (.tmp 74)) u := hd (5, 74) (by simp)
            refine Goes.call 31 #[.agg #[.bool sD, .slice noD nnD ncD, .slice eoD enD ecD], .agg #[.bool s74, .slice no74 nn74 nc74, .slice eo74 en74 ec74]] (by go_simp) ?_
            refine Calls.mono (ratCmp_k (cqD.later hC).rd k74.rd (by omega) (by omega) (by omega)) ?_
            rintro e u' ⟨rfl, lb⟩
            exact ⟨_, rfl, hC.trans (lb.mono hC.size), lb, rfl⟩
          · have e75 : ρ (.tmp 75) = .int .i64 (qsgn (qa - (qfl (qa)) - ((((1 : Int) : Rat) / ((1 : Int) : Rat))))) := hd (6, 75) (by simp)
            have hb0 : qsgn (qa - (qfl (qa)) - ((((1 : Int) : Rat) / ((1 : Int) : Rat)))) < 0 := HF.out.2
            generalize qsgn (qa - (qfl (qa)) - ((((1 : Int) : Rat) / ((1 : Int) : Rat)))) = zz at *
            refine Goes.pure (.bool true) ?_ ⟨hC, Below.refl _ _, rfl⟩
            unfold Goes
            go_simp
          · have e72 : ρ (.tmp 72) = .bool true := hd (3, 72) (by simp)
            have e76 : ρ (.tmp 76) = .bool true := hd (7, 76) (by simp)
            refine Goes.pure (.bool true) ?_ ⟨hC, Below.refl _ _, rfl⟩
            unfold Goes
            go_simp
          · have e77 : ρ (.tmp 77) = .bool true := hd (8, 77) (by simp)
            refine Goes.pure (.bool true) ?_ ⟨hC, Below.refl _ _, rfl⟩
            unfold Goes
            go_simp
          · have e3 : ρ (.tmp 3) = .pointer (some ⟨g, 0, none⟩) := ho 3 (by simp)
            obtain ⟨c0, c1, c2⟩ := (b3.later hC).cells
            refine Goes.pure (.agg #[.bool s, .slice no nn nc, .slice eo en ec]) ?_ ⟨hC, Below.refl _ _, rfl⟩
            unfold Goes
            go_simp
          · have e79 : ρ (.tmp 79) = .agg #[.bool s, .slice no nn nc, .slice eo en ec] := hd (10, 79) (by simp)
            refine Goes.call 36 #[.agg #[.bool s, .slice no nn nc, .slice eo en ec]] (by go_simp) ?_
            refine Calls.mono (ratFloor_k (ha.later hC) (by omega) (by omega)) ?_
            rintro e u' ⟨s1, no1, nn1, nc1, eo1, en1, ec1, rfl, cq, lb⟩
            exact ⟨_, rfl, hC.trans (lb.mono hC.size), lb, ⟨s1, no1, nn1, nc1, eo1, en1, ec1, rfl, cq⟩⟩
          · obtain ⟨s80, no80, nn80, nc80, eo80, en80, ec80, e80, k80⟩ : VC (qfl (qa)) (K + 1) (ρ (.tmp 80)) u := hd (11, 80) (by simp)
            have hf0 := field_den u s80 no80 nn80 nc80 eo80 en80 ec80
            refine Goes.pure (.slice eo80 en80 ec80) ?_ ⟨hC, Below.refl _ _, ⟨eo80, en80, ec80, rfl, k80.den, k80.ld⟩⟩
            unfold Goes
            go_simp
          · obtain ⟨sl, lb⟩ := lit1 u 1 [1] #[.int .u32 1] rfl (lim1 (by omega)) rfl
            refine Goes.run (.slice (some ⟨u.heap.size, 0, none⟩) 1 1) (u.alloc (.cells #[.int .u32 1] 40)) (by go_simp) ⟨hC.trans (lb.mono hC.size), lb, ?_⟩
            exact ⟨_, 1, 1, rfl, by rw [show toL 1 = [1] from toL_is rfl (lim1 (by omega)) (.inr (by simp))]; exact sl, by omega⟩
          · obtain ⟨o81, n81, c81, e81, k81, j81⟩ : VN ((qfl (qa)).den) (K + 1) (ρ (.tmp 81)) u := hd (12, 81) (by simp)
            obtain ⟨o82, n82, c82, e82, k82, j82⟩ : VN (1) (1) (ρ (.tmp 82)) u := hd (13, 82) (by simp)
            refine Goes.call 38 #[.slice o81 n81 c81, .slice o82 n82 c82] (by go_simp) ?_
            refine Calls.mono (same_k k81 k82 (congrArg toL (show (qfl (qa)).den = 1 from rfl)) (by omega)) ?_
            rintro e u' ⟨rfl, lb⟩
            exact ⟨_, rfl, hC.trans (lb.mono hC.size), lb, rfl⟩
          · have e78 : ρ (.tmp 78) = .bool true := hd (9, 78) (by simp)
            have e83 : ρ (.tmp 83) = .bool true := hd (14, 83) (by simp)
            refine Goes.pure (.bool true) ?_ ⟨hC, Below.refl _ _, rfl⟩
            unfold Goes
            go_simp
          · have e84 : ρ (.tmp 84) = .bool true := hd (15, 84) (by simp)
            refine Goes.pure (.bool true) ?_ ⟨hC, Below.refl _ _, rfl⟩
            unfold Goes
            go_simp
          · have e3 : ρ (.tmp 3) = .pointer (some ⟨g, 0, none⟩) := ho 3 (by simp)
            obtain ⟨c0, c1, c2⟩ := (b3.later hC).cells
            refine Goes.pure (.agg #[.bool s, .slice no nn nc, .slice eo en ec]) ?_ ⟨hC, Below.refl _ _, rfl⟩
            unfold Goes
            go_simp
          · have e4 : ρ (.tmp 4) = .pointer (some ⟨g + 1, 0, none⟩) := ho 4 (by simp)
            obtain ⟨c0, c1, c2⟩ := (b4.later hC).cells
            refine Goes.pure (.agg #[.bool t, .slice mo mn mc, .slice fo fn fc]) ?_ ⟨hC, Below.refl _ _, rfl⟩
            unfold Goes
            go_simp
          · have e86 : ρ (.tmp 86) = .agg #[.bool s, .slice no nn nc, .slice eo en ec] := hd (17, 86) (by simp)
            have e87 : ρ (.tmp 87) = .agg #[.bool t, .slice mo mn mc, .slice fo fn fc] := hd (18, 87) (by simp)
            refine Goes.call 27 #[.agg #[.bool s, .slice no nn nc, .slice eo en ec], .agg #[.bool t, .slice mo mn mc, .slice fo fn fc]] (by go_simp) ?_
            refine Calls.mono (ratSub_k (ha.later hC) (hb.later hC) (by omega) (by omega) (by omega)) ?_
            rintro e u' ⟨s1, no1, nn1, nc1, eo1, en1, ec1, rfl, cq, lb⟩
            exact ⟨_, rfl, hC.trans (lb.mono hC.size), lb, ⟨s1, no1, nn1, nc1, eo1, en1, ec1, rfl, cq⟩⟩
          · obtain ⟨s88, no88, nn88, nc88, eo88, en88, ec88, e88, k88⟩ : VC (qa - (qb)) (K + (K) + 1) (ρ (.tmp 88)) u := hd (19, 88) (by simp)
            refine Goes.call 15 #[.agg #[.bool s88, .slice no88 nn88 nc88, .slice eo88 en88 ec88]] (by go_simp) ?_
            refine Calls.mono (ratSign_k k88.rd (by omega)) ?_
            rintro e u' ⟨rfl, lb⟩
            exact ⟨_, rfl, hC.trans (lb.mono hC.size), lb, rfl⟩
          · have e7 : ρ (.tmp 7) = .int .i64 (qsgn (qa - (qb))) := ho 7 (by simp)
            refine Goes.pure (.int .i64 (qsgn (qa - (qb)))) ?_ ⟨hC, Below.refl _ _, rfl⟩
            unfold Goes
            go_simp
          · have e89 : ρ (.tmp 89) = .int .i64 (qsgn (qa - (qb))) := hd (20, 89) (by simp)
            have e90 : ρ (.tmp 90) = .int .i64 (qsgn (qa - (qb))) := hd (21, 90) (by simp)
            have hb0 : (qsgn (qa - (qb)) == qsgn (qa - (qb))) = true := by simp
            generalize qsgn (qa - (qb)) = zz at *
            refine Goes.pure (.bool true) ?_ ⟨hC, Below.refl _ _, rfl⟩
            unfold Goes
            go_simp
          · have e85 : ρ (.tmp 85) = .bool true := hd (16, 85) (by simp)
            have e91 : ρ (.tmp 91) = .bool true := hd (22, 91) (by simp)
            refine Goes.pure (.bool true) ?_ ⟨hC, Below.refl _ _, rfl⟩
            unfold Goes
            go_simp
        · intro vs u hC hv
          have eR : vs 23 = .bool true := hv 23 (by omega)
          clear hv
          simp only [puts, List.take, List.drop, Act.put, List.setIfInBounds_toArray, List.set_cons_succ, List.set_cons_zero, Nat.reduceAdd, eR]
          go_wp2
          go_ret
          exact ⟨rfl, B4.trans (hC.mono B4.size)⟩
end Go.Proofs.Ytagjjhaokhobhaa
