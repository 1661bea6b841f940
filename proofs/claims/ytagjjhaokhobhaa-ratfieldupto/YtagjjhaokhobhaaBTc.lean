/- penumbralaw03.RatField: true. -/
import Derived.Test.YtagjjhaokhobhaaAe
namespace Go.Proofs.Ytagjjhaokhobhaa
open Go.RowKit M Kahn

set_option maxRecDepth 100000 in
set_option maxHeartbeats 16000000 in
theorem field_any (w : World) (s : Bool) (no : Option Addr) (nn nc : Nat) (eo : Option Addr) (en ec : Nat) (t : Bool) (mo : Option Addr) (mn mc : Nat) (fo : Option Addr) (fn fc : Nat) (r : Bool) (po : Option Addr) (pn pc : Nat) (ho_ : Option Addr) (hn_ hc_ : Nat) (K : Nat) (qa qb qc : Rat) (ha0 : Qn w s no nn nc eo en ec qa K) (hb0 : Qn w t mo mn mc fo fn fc qb K) (hc0 : Qn w r po pn pc ho_ hn_ hc_ qc K) (hK1 : 1 ≤ K) (hK : K ≤ 1048576) :
    Calls Try.prog 6 #[.agg #[.bool s, .slice no nn nc, .slice eo en ec], .agg #[.bool t, .slice mo mn mc, .slice fo fn fc], .agg #[.bool r, .slice po pn pc, .slice ho_ hn_ hc_]] w fun e w' => e = .returned (.bool true) ∧ Below w.heap.size w w' := by
  obtain ⟨w0, hw0, b3, b4, b5, B0, hz⟩ := boxes3 w (.bool s) (.slice no nn nc) (.slice eo en ec) (.bool t) (.slice mo mn mc) (.slice fo fn fc) (.bool r) (.slice po pn pc) (.slice ho_ hn_ hc_)
  have ha := ha0.later B0
  have hb := hb0.later B0
  have hqc := hc0.later B0
  clear ha0 hb0 hc0
  obtain ⟨g, hg⟩ : ∃ g, g = w.heap.size := ⟨_, rfl⟩
  rw [← hg] at b3 b4 b5 hz
  obtain ⟨ok, hok⟩ : ∃ ok, decide (qb ≠ 0) = ok := ⟨_, rfl⟩
  obtain ⟨cb30, cb31, cb32⟩ := b3.cells
  obtain ⟨cb40, cb41, cb42⟩ := b4.cells
  obtain ⟨cb50, cb51, cb52⟩ := b5.cells
  go_enter Try.func6, Try.ntmps6
  go_wp2_with fail
  rw [← hw0, ← hg]
  clear hw0 hg
  have kl : VL [qa, qb] K (.slice (some ⟨w0.heap.size, 0, none⟩) 2 2) (w0.alloc (.cells #[.bool s, .slice no nn nc, .slice eo en ec, .bool t, .slice mo mn mc, .slice fo fn fc] 24)) := VL.made [⟨s, no, nn, nc, eo, en, ec⟩, ⟨t, mo, mn, mc, fo, fn, fc⟩] [qa, qb] ⟨ha, hb, trivial⟩ _ rfl 2 rfl
  rw [hz] at kl
  clear hz
  have lb : Below w0.heap.size w0 (w0.alloc (.cells #[.bool s, .slice no nn nc, .slice eo en ec, .bool t, .slice mo mn mc, .slice fo fn fc] 24)) := (Below.refl _ _).alloc (Nat.le_refl _) _
  replace ha := ha.later lb
  replace hb := hb.later lb
  replace hqc := hqc.later lb
  replace b3 := b3.later lb
  replace b4 := b4.later lb
  replace b5 := b5.later lb
  have B1 := B0.trans (lb.mono B0.size)
  clear B0 lb
  generalize w0.alloc (.cells #[.bool s, .slice no nn nc, .slice eo en ec, .bool t, .slice mo mn mc, .slice fo fn fc] 24) = w1 at *
  refine (ratSum_k kl hK1 (by simp only [List.length_cons, List.length_nil]; omega)).mono ?_
  rintro e w2 ⟨s1, no1, nn1, nc1, eo1, en1, ec1, rfl, cq, lb⟩
  rw [qsum2] at cq
  replace cq := cq.mono (show [qa, qb].length * (K + 1) + 1 ≤ 2 * (K + 1) + 1 from by simp only [List.length_cons, List.length_nil]; omega)
  clear kl
  replace ha := ha.later lb
  replace hb := hb.later lb
  replace hqc := hqc.later lb
  replace b3 := b3.later lb
  replace b4 := b4.later lb
  replace b5 := b5.later lb
  have B2 := B1.trans (lb.mono B1.size)
  clear B1 lb
  have b7 : Rb (w2.alloc (.cells #[.bool s1, .slice no1 nn1 nc1, .slice eo1 en1 ec1] 24)) w2.heap.size (.bool s1) (.slice no1 nn1 nc1) (.slice eo1 en1 ec1) := ⟨heap_alloc_new _ _⟩
  have lb : Below w2.heap.size w2 (w2.alloc (.cells #[.bool s1, .slice no1 nn1 nc1, .slice eo1 en1 ec1] 24)) := (Below.refl _ _).alloc (Nat.le_refl _) _
  replace ha := ha.later lb
  replace hb := hb.later lb
  replace hqc := hqc.later lb
  replace cq := cq.later lb
  replace b3 := b3.later lb
  replace b4 := b4.later lb
  replace b5 := b5.later lb
  have B3 := B2.trans (lb.mono B2.size)
  clear B2 lb
  clear cb30 cb31 cb32 cb40 cb41 cb42 cb50 cb51 cb52
  go_wp2
  generalize w2.heap.size = g7 at *
  generalize w2.alloc (.cells #[.bool s1, .slice no1 nn1 nc1, .slice eo1 en1 ec1] 24) = w3 at *
  have HLst : Lst [VV (.agg #[.bool s1, .slice no1 nn1 nc1, .slice eo1 en1 ec1]), VV (.agg #[.bool t, .slice mo mn mc, .slice fo fn fc]), VV (.agg #[.bool s, .slice no nn nc, .slice eo en ec]), VL [qb, qa] (K), VC (qb + qa) (2 * (K + 1) + 1), VV (.bool true), VV (.bool true), VV (.agg #[.bool s1, .slice no1 nn1 nc1, .slice eo1 en1 ec1]), VV (.agg #[.bool r, .slice po pn pc, .slice ho_ hn_ hc_]), VL [qa + qb, qc] (2 * (K + 1) + 1 + K), VC ((qa + qb) + qc) (2 * (2 * (K + 1) + 1 + K + 1) + 1), VV (.agg #[.bool s, .slice no nn nc, .slice eo en ec]), VV (.agg #[.bool t, .slice mo mn mc, .slice fo fn fc]), VV (.agg #[.bool r, .slice po pn pc, .slice ho_ hn_ hc_]), VL [qb, qc] (K), VC (qb + qc) (2 * (K + 1) + 1), VL [qa, qb + qc] (K + 2 * (K + 1) + 1), VC (qa + (qb + qc)) (2 * (K + 2 * (K + 1) + 1 + 1) + 1), VV (.bool true), VV (.bool true), VV (.bool true), VV (.agg #[.bool s, .slice no nn nc, .slice eo en ec]), VV (.agg #[.bool t, .slice mo mn mc, .slice fo fn fc]), VV (.agg #[.bool r, .slice po pn pc, .slice ho_ hn_ hc_]), VL [qa, qb, qc] (K), VC (qa + qb + qc) (3 * (K + 1) + 1), VV (.agg #[.bool s1, .slice no1 nn1 nc1, .slice eo1 en1 ec1]), VV (.agg #[.bool r, .slice po pn pc, .slice ho_ hn_ hc_]), VL [qa + qb, qc] (2 * (K + 1) + 1 + K), VC ((qa + qb) + qc) (2 * (2 * (K + 1) + 1 + K + 1) + 1), VV (.bool true), VV (.bool true), VV (.bool true), VV (.agg #[.bool s1, .slice no1 nn1 nc1, .slice eo1 en1 ec1]), VV (.agg #[.bool t, .slice mo mn mc, .slice fo fn fc]), VC (qa + qb - (qb)) (2 * (K + 1) + 1 + (K) + 1), VV (.agg #[.bool s, .slice no nn nc, .slice eo en ec]), VC (qa) (K), VV (.bool true), VV (.bool true), VV (.bool true), VV (.agg #[.bool s, .slice no nn nc, .slice eo en ec]), VV (.agg #[.bool s, .slice no nn nc, .slice eo en ec]), VC (-(qa)) (K), VL [qa, -(qa)] (K), VC (qa + -(qa)) (2 * (K + 1) + 1), VV (.int .i64 (qsgn (qa + -(qa)))), VV (.bool true), VV (.bool true)] := ⟨VV.lasts _, VV.lasts _, VV.lasts _, VL.lasts _ _, VC.lasts _ _, VV.lasts _, VV.lasts _, VV.lasts _, VV.lasts _, VL.lasts _ _, VC.lasts _ _, VV.lasts _, VV.lasts _, VV.lasts _, VL.lasts _ _, VC.lasts _ _, VL.lasts _ _, VC.lasts _ _, VV.lasts _, VV.lasts _, VV.lasts _, VV.lasts _, VV.lasts _, VV.lasts _, VL.lasts _ _, VC.lasts _ _, VV.lasts _, VV.lasts _, VL.lasts _ _, VC.lasts _ _, VV.lasts _, VV.lasts _, VV.lasts _, VV.lasts _, VV.lasts _, VC.lasts _ _, VV.lasts _, VC.lasts _ _, VV.lasts _, VV.lasts _, VV.lasts _, VV.lasts _, VV.lasts _, VC.lasts _ _, VL.lasts _ _, VC.lasts _ _, VV.lasts _, VV.lasts _, VV.lasts _, trivial⟩
  refine wp_region_kahn 49 139 [([], [7]), ([], [4]), ([], [3]), ([(1, 17), (2, 18)], []), ([(3, 19)], []), ([(0, 16), (4, 20)], []), ([(5, 21)], []), ([], [7]), ([], [5]), ([(7, 23), (8, 24)], []), ([(9, 25)], []), ([], [3]), ([], [4]), ([], [5]), ([(12, 28), (13, 29)], []), ([(14, 30)], []), ([(11, 27), (15, 31)], []), ([(16, 32)], []), ([(10, 26), (17, 33)], []), ([(6, 22), (18, 34)], []), ([(19, 35)], []), ([], [3]), ([], [4]), ([], [5]), ([(21, 37), (22, 38), (23, 39)], []), ([(24, 40)], []), ([], [7]), ([], [5]), ([(26, 42), (27, 43)], []), ([(28, 44)], []), ([(25, 41), (29, 45)], []), ([(20, 36), (30, 46)], []), ([(31, 47)], []), ([], [7]), ([], [4]), ([(33, 49), (34, 50)], []), ([], [3]), ([(36, 52)], []), ([(35, 51), (37, 53)], []), ([(32, 48), (38, 54)], []), ([(39, 55)], []), ([], [3]), ([], [3]), ([(42, 58)], []), ([(41, 57), (43, 59)], []), ([(44, 60)], []), ([(45, 61)], []), ([(46, 62)], []), ([(40, 56), (47, 63)], [])]
    (fun u => Below w3.heap.size w3 u) (fun u u' => Below u.heap.size u u')
    (Sp [VV (.agg #[.bool s1, .slice no1 nn1 nc1, .slice eo1 en1 ec1]), VV (.agg #[.bool t, .slice mo mn mc, .slice fo fn fc]), VV (.agg #[.bool s, .slice no nn nc, .slice eo en ec]), VL [qb, qa] (K), VC (qb + qa) (2 * (K + 1) + 1), VV (.bool true), VV (.bool true), VV (.agg #[.bool s1, .slice no1 nn1 nc1, .slice eo1 en1 ec1]), VV (.agg #[.bool r, .slice po pn pc, .slice ho_ hn_ hc_]), VL [qa + qb, qc] (2 * (K + 1) + 1 + K), VC ((qa + qb) + qc) (2 * (2 * (K + 1) + 1 + K + 1) + 1), VV (.agg #[.bool s, .slice no nn nc, .slice eo en ec]), VV (.agg #[.bool t, .slice mo mn mc, .slice fo fn fc]), VV (.agg #[.bool r, .slice po pn pc, .slice ho_ hn_ hc_]), VL [qb, qc] (K), VC (qb + qc) (2 * (K + 1) + 1), VL [qa, qb + qc] (K + 2 * (K + 1) + 1), VC (qa + (qb + qc)) (2 * (K + 2 * (K + 1) + 1 + 1) + 1), VV (.bool true), VV (.bool true), VV (.bool true), VV (.agg #[.bool s, .slice no nn nc, .slice eo en ec]), VV (.agg #[.bool t, .slice mo mn mc, .slice fo fn fc]), VV (.agg #[.bool r, .slice po pn pc, .slice ho_ hn_ hc_]), VL [qa, qb, qc] (K), VC (qa + qb + qc) (3 * (K + 1) + 1), VV (.agg #[.bool s1, .slice no1 nn1 nc1, .slice eo1 en1 ec1]), VV (.agg #[.bool r, .slice po pn pc, .slice ho_ hn_ hc_]), VL [qa + qb, qc] (2 * (K + 1) + 1 + K), VC ((qa + qb) + qc) (2 * (2 * (K + 1) + 1 + K + 1) + 1), VV (.bool true), VV (.bool true), VV (.bool true), VV (.agg #[.bool s1, .slice no1 nn1 nc1, .slice eo1 en1 ec1]), VV (.agg #[.bool t, .slice mo mn mc, .slice fo fn fc]), VC (qa + qb - (qb)) (2 * (K + 1) + 1 + (K) + 1), VV (.agg #[.bool s, .slice no nn nc, .slice eo en ec]), VC (qa) (K), VV (.bool true), VV (.bool true), VV (.bool true), VV (.agg #[.bool s, .slice no nn nc, .slice eo en ec]), VV (.agg #[.bool s, .slice no nn nc, .slice eo en ec]), VC (-(qa)) (K), VL [qa, -(qa)] (K), VC (qa + -(qa)) (2 * (K + 1) + 1), VV (.int .i64 (qsgn (qa + -(qa)))), VV (.bool true), VV (.bool true)])
    (by kernel_rfl) rfl (by kernel_rfl) (Below.refl _ _).drew (fun k v u u' _ hg hs => Sp.lasts HLst k v u u' hg hs) ?_ ?_
  · clear HLst
    refine ⟨.inl ⟨by simp, fun ρ u hC hc hf hd ho => ?_⟩, .inl ⟨by simp, fun ρ u hC hc hf hd ho => ?_⟩, .inl ⟨by simp, fun ρ u hC hc hf hd ho => ?_⟩, .inl ⟨by simp, fun ρ u hC hc hf hd ho => ?_⟩, .inl ⟨by simp, fun ρ u hC hc hf hd ho => ?_⟩, .inl ⟨by simp, fun ρ u hC hc hf hd ho => ?_⟩, .inl ⟨by simp, fun ρ u hC hc hf hd ho => ?_⟩, .inl ⟨guard_of rfl fun _ _ h => h, fun ρ u hC hc hf hd ho => ?_⟩, .inl ⟨guard_of rfl fun _ _ h => h, fun ρ u hC hc hf hd ho => ?_⟩, .inl ⟨guard_of rfl fun _ _ h => h, fun ρ u hC hc hf hd ho => ?_⟩, .inl ⟨guard_of rfl fun _ _ h => h, fun ρ u hC hc hf hd ho => ?_⟩, .inl ⟨guard_of rfl fun _ _ h => h, fun ρ u hC hc hf hd ho => ?_⟩, .inl ⟨guard_of rfl fun _ _ h => h, fun ρ u hC hc hf hd ho => ?_⟩, .inl ⟨guard_of rfl fun _ _ h => h, fun ρ u hC hc hf hd ho => ?_⟩, .inl ⟨guard_of rfl fun _ _ h => h, fun ρ u hC hc hf hd ho => ?_⟩, .inl ⟨guard_of rfl fun _ _ h => h, fun ρ u hC hc hf hd ho => ?_⟩, .inl ⟨guard_of rfl fun _ _ h => h, fun ρ u hC hc hf hd ho => ?_⟩, .inl ⟨guard_of rfl fun _ _ h => h, fun ρ u hC hc hf hd ho => ?_⟩, .inl ⟨guard_of rfl fun _ _ h => h, fun ρ u hC hc hf hd ho => ?_⟩, .inl ⟨by simp, fun ρ u hC hc hf hd ho => ?_⟩, .inl ⟨by simp, fun ρ u hC hc hf hd ho => ?_⟩, .inl ⟨guard_of rfl fun _ _ h => h, fun ρ u hC hc hf hd ho => ?_⟩, .inl ⟨guard_of rfl fun _ _ h => h, fun ρ u hC hc hf hd ho => ?_⟩, .inl ⟨guard_of rfl fun _ _ h => h, fun ρ u hC hc hf hd ho => ?_⟩, .inl ⟨guard_of rfl fun _ _ h => h, fun ρ u hC hc hf hd ho => ?_⟩, .inl ⟨guard_of rfl fun _ _ h => h, fun ρ u hC hc hf hd ho => ?_⟩, .inl ⟨guard_of rfl fun _ _ h => h, fun ρ u hC hc hf hd ho => ?_⟩, .inl ⟨guard_of rfl fun _ _ h => h, fun ρ u hC hc hf hd ho => ?_⟩, .inl ⟨guard_of rfl fun _ _ h => h, fun ρ u hC hc hf hd ho => ?_⟩, .inl ⟨guard_of rfl fun _ _ h => h, fun ρ u hC hc hf hd ho => ?_⟩, .inl ⟨guard_of rfl fun _ _ h => h, fun ρ u hC hc hf hd ho => ?_⟩, .inl ⟨by simp, fun ρ u hC hc hf hd ho => ?_⟩, .inl ⟨by simp, fun ρ u hC hc hf hd ho => ?_⟩, .inl ⟨guard_of rfl fun _ _ h => h, fun ρ u hC hc hf hd ho => ?_⟩, .inl ⟨guard_of rfl fun _ _ h => h, fun ρ u hC hc hf hd ho => ?_⟩, .inl ⟨guard_of rfl fun _ _ h => h, fun ρ u hC hc hf hd ho => ?_⟩, .inl ⟨guard_of rfl fun _ _ h => h, fun ρ u hC hc hf hd ho => ?_⟩, .inl ⟨guard_of rfl fun _ _ h => h, fun ρ u hC hc hf hd ho => ?_⟩, .inl ⟨guard_of rfl fun _ _ h => h, fun ρ u hC hc hf hd ho => ?_⟩, .inl ⟨by simp, fun ρ u hC hc hf hd ho => ?_⟩, .inl ⟨by simp, fun ρ u hC hc hf hd ho => ?_⟩, .inl ⟨guard_of rfl fun _ _ h => h, fun ρ u hC hc hf hd ho => ?_⟩, .inl ⟨guard_of rfl fun _ _ h => h, fun ρ u hC hc hf hd ho => ?_⟩, .inl ⟨guard_of rfl fun _ _ h => h, fun ρ u hC hc hf hd ho => ?_⟩, .inl ⟨guard_of rfl fun _ _ h => h, fun ρ u hC hc hf hd ho => ?_⟩, .inl ⟨guard_of rfl fun _ _ h => h, fun ρ u hC hc hf hd ho => ?_⟩, .inl ⟨guard_of rfl fun _ _ h => h, fun ρ u hC hc hf hd ho => ?_⟩, .inl ⟨guard_of rfl fun _ _ h => h, fun ρ u hC hc hf hd ho => ?_⟩, .inl ⟨by simp, fun ρ u hC hc hf hd ho => ?_⟩, trivial⟩
    · have e7 : ρ (.tmp 7) = .pointer (some ⟨g7, 0, none⟩) := ho 7 (by simp)
      obtain ⟨c0, c1, c2⟩ := (b7.later hC).cells
      refine Goes.pure (.agg #[.bool s1, .slice no1 nn1 nc1, .slice eo1 en1 ec1]) ?_ ⟨hC, Below.refl _ _, rfl⟩
      unfold Goes
      go_simp
    · have e4 : ρ (.tmp 4) = .pointer (some ⟨g + 1, 0, none⟩) := ho 4 (by simp)
      obtain ⟨c0, c1, c2⟩ := (b4.later hC).cells
      refine Goes.pure (.agg #[.bool t, .slice mo mn mc, .slice fo fn fc]) ?_ ⟨hC, Below.refl _ _, rfl⟩
      unfold Goes
      go_simp
    · have e3 : ρ (.tmp 3) = .pointer (some ⟨g, 0, none⟩) := ho 3 (by simp)
      obtain ⟨c0, c1, c2⟩ := (b3.later hC).cells
      refine Goes.pure (.agg #[.bool s, .slice no nn nc, .slice eo en ec]) ?_ ⟨hC, Below.refl _ _, rfl⟩
      unfold Goes
      go_simp
    · have e17 : ρ (.tmp 17) = .agg #[.bool t, .slice mo mn mc, .slice fo fn fc] := hd (1, 17) (by simp)
      have e18 : ρ (.tmp 18) = .agg #[.bool s, .slice no nn nc, .slice eo en ec] := hd (2, 18) (by simp)
      have lb : Below u.heap.size u (u.alloc (.cells #[.bool t, .slice mo mn mc, .slice fo fn fc, .bool s, .slice no nn nc, .slice eo en ec] 24)) := (Below.refl _ _).alloc (Nat.le_refl _) _
      refine Goes.run (.slice (some ⟨u.heap.size, 0, none⟩) 2 2) (u.alloc (.cells #[.bool t, .slice mo mn mc, .slice fo fn fc, .bool s, .slice no nn nc, .slice eo en ec] 24)) (by go_simp) ⟨hC.trans (lb.mono hC.size), lb, ?_⟩
      exact VL.made [⟨t, mo, mn, mc, fo, fn, fc⟩, ⟨s, no, nn, nc, eo, en, ec⟩] [qb, qa] ⟨(hb.later hC).mono (by omega), (ha.later hC).mono (by omega), trivial⟩ _ rfl 2 rfl
    · have k19 : VL [qb, qa] (K) (ρ (.tmp 19)) u := hd (3, 19) (by simp)
      refine Goes.call 25 #[ρ (.tmp 19)] (by go_simp) ?_
      refine Calls.mono (ratSum_k k19 (by omega) (by simp only [List.length_cons, List.length_nil]; omega)) ?_
      rintro e u' ⟨s1, no1, nn1, nc1, eo1, en1, ec1, rfl, cq, lb⟩
      exact ⟨_, rfl, hC.trans (lb.mono hC.size), lb, ⟨s1, no1, nn1, nc1, eo1, en1, ec1, rfl, by rw [qsum2] at cq; exact cq.mono (by simp only [List.length_cons, List.length_nil]; omega)⟩⟩
    · have e16 : ρ (.tmp 16) = .agg #[.bool s1, .slice no1 nn1 nc1, .slice eo1 en1 ec1] := hd (0, 16) (by simp)
      obtain ⟨s20, no20, nn20, nc20, eo20, en20, ec20, e20, k20⟩ : VC (qb + qa) (2 * (K + 1) + 1) (ρ (.tmp 20)) u := hd (4, 20) (by simp)
      refine Goes.call 10 #[.agg #[.bool s1, .slice no1 nn1 nc1, .slice eo1 en1 ec1], .agg #[.bool s20, .slice no20 nn20 nc20, .slice eo20 en20 ec20]] (by go_simp) ?_
      refine Calls.mono (is3_any u s1 no1 nn1 nc1 eo1 en1 ec1 s20 no20 nn20 nc20 eo20 en20 ec20 _ _ _ _ (cq.later hC).num (cq.later hC).den k20.num k20.den (by have := (cq.later hC).ln; omega) (by have := (cq.later hC).ld; omega) (by have := k20.ln; omega) (by have := k20.ld; omega)) ?_
      rintro e u' ⟨r, rfl, HR, lb⟩
      exact ⟨_, rfl, hC.trans (lb.mono hC.size), lb, by rw [HR.out.2 (cq_same (cq.later hC) k20 (by grind))]; rfl⟩
    · have e21 : ρ (.tmp 21) = .bool true := hd (5, 21) (by simp)
      refine Goes.pure (.bool true) ?_ ⟨hC, Below.refl _ _, rfl⟩
      unfold Goes
      go_simp
    · have e7 : ρ (.tmp 7) = .pointer (some ⟨g7, 0, none⟩) := ho 7 (by simp)
      obtain ⟨c0, c1, c2⟩ := (b7.later hC).cells
      refine Goes.pure (.agg #[.bool s1, .slice no1 nn1 nc1, .slice eo1 en1 ec1]) ?_ ⟨hC, Below.refl _ _, rfl⟩
      unfold Goes
      go_simp
    · have e5 : ρ (.tmp 5) = .pointer (some ⟨g + 2, 0, none⟩) := ho 5 (by simp)
      obtain ⟨c0, c1, c2⟩ := (b5.later hC).cells
      refine Goes.pure (.agg #[.bool r, .slice po pn pc, .slice ho_ hn_ hc_]) ?_ ⟨hC, Below.refl _ _, rfl⟩
      unfold Goes
      go_simp
    · have e23 : ρ (.tmp 23) = .agg #[.bool s1, .slice no1 nn1 nc1, .slice eo1 en1 ec1] := hd (7, 23) (by simp)
      have e24 : ρ (.tmp 24) = .agg #[.bool r, .slice po pn pc, .slice ho_ hn_ hc_] := hd (8, 24) (by simp)
      have lb : Below u.heap.size u (u.alloc (.cells #[.bool s1, .slice no1 nn1 nc1, .slice eo1 en1 ec1, .bool r, .slice po pn pc, .slice ho_ hn_ hc_] 24)) := (Below.refl _ _).alloc (Nat.le_refl _) _
      refine Goes.run (.slice (some ⟨u.heap.size, 0, none⟩) 2 2) (u.alloc (.cells #[.bool s1, .slice no1 nn1 nc1, .slice eo1 en1 ec1, .bool r, .slice po pn pc, .slice ho_ hn_ hc_] 24)) (by go_simp) ⟨hC.trans (lb.mono hC.size), lb, ?_⟩
      exact VL.made [⟨s1, no1, nn1, nc1, eo1, en1, ec1⟩, ⟨r, po, pn, pc, ho_, hn_, hc_⟩] [qa + qb, qc] ⟨(cq.later hC).rd.mono (by omega), (hqc.later hC).mono (by omega), trivial⟩ _ rfl 2 rfl
    · have k25 : VL [qa + qb, qc] (2 * (K + 1) + 1 + K) (ρ (.tmp 25)) u := hd (9, 25) (by simp)
      refine Goes.call 25 #[ρ (.tmp 25)] (by go_simp) ?_
      refine Calls.mono (ratSum_k k25 (by omega) (by simp only [List.length_cons, List.length_nil]; omega)) ?_
      rintro e u' ⟨s1, no1, nn1, nc1, eo1, en1, ec1, rfl, cq, lb⟩
      exact ⟨_, rfl, hC.trans (lb.mono hC.size), lb, ⟨s1, no1, nn1, nc1, eo1, en1, ec1, rfl, by rw [qsum2] at cq; exact cq.mono (by simp only [List.length_cons, List.length_nil]; omega)⟩⟩
    · have e3 : ρ (.tmp 3) = .pointer (some ⟨g, 0, none⟩) := ho 3 (by simp)
      obtain ⟨c0, c1, c2⟩ := (b3.later hC).cells
      refine Goes.pure (.agg #[.bool s, .slice no nn nc, .slice eo en ec]) ?_ ⟨hC, Below.refl _ _, rfl⟩
      unfold Goes
      go_simp
    · have e4 : ρ (.tmp 4) = .pointer (some ⟨g + 1, 0, none⟩) := ho 4 (by simp)
      obtain ⟨c0, c1, c2⟩ := (b4.later hC).cells
      refine Goes.pure (.agg #[.bool t, .slice mo mn mc, .slice fo fn fc]) ?_ ⟨hC, Below.refl _ _, rfl⟩
      unfold Goes
      go_simp
    · have e5 : ρ (.tmp 5) = .pointer (some ⟨g + 2, 0, none⟩) := ho 5 (by simp)
      obtain ⟨c0, c1, c2⟩ := (b5.later hC).cells
      refine Goes.pure (.agg #[.bool r, .slice po pn pc, .slice ho_ hn_ hc_]) ?_ ⟨hC, Below.refl _ _, rfl⟩
      unfold Goes
      go_simp
    · have e28 : ρ (.tmp 28) = .agg #[.bool t, .slice mo mn mc, .slice fo fn fc] := hd (12, 28) (by simp)
      have e29 : ρ (.tmp 29) = .agg #[.bool r, .slice po pn pc, .slice ho_ hn_ hc_] := hd (13, 29) (by simp)
      have lb : Below u.heap.size u (u.alloc (.cells #[.bool t, .slice mo mn mc, .slice fo fn fc, .bool r, .slice po pn pc, .slice ho_ hn_ hc_] 24)) := (Below.refl _ _).alloc (Nat.le_refl _) _
      refine Goes.run (.slice (some ⟨u.heap.size, 0, none⟩) 2 2) (u.alloc (.cells #[.bool t, .slice mo mn mc, .slice fo fn fc, .bool r, .slice po pn pc, .slice ho_ hn_ hc_] 24)) (by go_simp) ⟨hC.trans (lb.mono hC.size), lb, ?_⟩
      exact VL.made [⟨t, mo, mn, mc, fo, fn, fc⟩, ⟨r, po, pn, pc, ho_, hn_, hc_⟩] [qb, qc] ⟨(hb.later hC).mono (by omega), (hqc.later hC).mono (by omega), trivial⟩ _ rfl 2 rfl
    · have k30 : VL [qb, qc] (K) (ρ (.tmp 30)) u := hd (14, 30) (by simp)
      refine Goes.call 25 #[ρ (.tmp 30)] (by go_simp) ?_
      refine Calls.mono (ratSum_k k30 (by omega) (by simp only [List.length_cons, List.length_nil]; omega)) ?_
      rintro e u' ⟨s1, no1, nn1, nc1, eo1, en1, ec1, rfl, cq, lb⟩
      exact ⟨_, rfl, hC.trans (lb.mono hC.size), lb, ⟨s1, no1, nn1, nc1, eo1, en1, ec1, rfl, by rw [qsum2] at cq; exact cq.mono (by simp only [List.length_cons, List.length_nil]; omega)⟩⟩
    · have e27 : ρ (.tmp 27) = .agg #[.bool s, .slice no nn nc, .slice eo en ec] := hd (11, 27) (by simp)
      obtain ⟨s31, no31, nn31, nc31, eo31, en31, ec31, e31, k31⟩ : VC (qb + qc) (2 * (K + 1) + 1) (ρ (.tmp 31)) u := hd (15, 31) (by simp)
      have lb : Below u.heap.size u (u.alloc (.cells #[.bool s, .slice no nn nc, .slice eo en ec, .bool s31, .slice no31 nn31 nc31, .slice eo31 en31 ec31] 24)) := (Below.refl _ _).alloc (Nat.le_refl _) _
      refine Goes.run (.slice (some ⟨u.heap.size, 0, none⟩) 2 2) (u.alloc (.cells #[.bool s, .slice no nn nc, .slice eo en ec, .bool s31, .slice no31 nn31 nc31, .slice eo31 en31 ec31] 24)) (by go_simp) ⟨hC.trans (lb.mono hC.size), lb, ?_⟩
      exact VL.made [⟨s, no, nn, nc, eo, en, ec⟩, ⟨s31, no31, nn31, nc31, eo31, en31, ec31⟩] [qa, qb + qc] ⟨(ha.later hC).mono (by omega), k31.rd.mono (by omega), trivial⟩ _ rfl 2 rfl
    · have k32 : VL [qa, qb + qc] (K + 2 * (K + 1) + 1) (ρ (.tmp 32)) u := hd (16, 32) (by simp)
      refine Goes.call 25 #[ρ (.tmp 32)] (by go_simp) ?_
      refine Calls.mono (ratSum_k k32 (by omega) (by simp only [List.length_cons, List.length_nil]; omega)) ?_
      rintro e u' ⟨s1, no1, nn1, nc1, eo1, en1, ec1, rfl, cq, lb⟩
      exact ⟨_, rfl, hC.trans (lb.mono hC.size), lb, ⟨s1, no1, nn1, nc1, eo1, en1, ec1, rfl, by rw [qsum2] at cq; exact cq.mono (by simp only [List.length_cons, List.length_nil]; omega)⟩⟩
    · obtain ⟨s26, no26, nn26, nc26, eo26, en26, ec26, e26, k26⟩ : VC ((qa + qb) + qc) (2 * (2 * (K + 1) + 1 + K + 1) + 1) (ρ (.tmp 26)) u := hd (10, 26) (by simp)
      obtain ⟨s33, no33, nn33, nc33, eo33, en33, ec33, e33, k33⟩ : VC (qa + (qb + qc)) (2 * (K + 2 * (K + 1) + 1 + 1) + 1) (ρ (.tmp 33)) u := hd (17, 33) (by simp)
      refine Goes.call 10 #[.agg #[.bool s26, .slice no26 nn26 nc26, .slice eo26 en26 ec26], .agg #[.bool s33, .slice no33 nn33 nc33, .slice eo33 en33 ec33]] (by go_simp) ?_
      refine Calls.mono (is3_any u s26 no26 nn26 nc26 eo26 en26 ec26 s33 no33 nn33 nc33 eo33 en33 ec33 _ _ _ _ k26.num k26.den k33.num k33.den (by have := k26.ln; omega) (by have := k26.ld; omega) (by have := k33.ln; omega) (by have := k33.ld; omega)) ?_
      rintro e u' ⟨r, rfl, HR, lb⟩
      exact ⟨_, rfl, hC.trans (lb.mono hC.size), lb, by rw [HR.out.2 (cq_same k26 k33 (by grind))]; rfl⟩
    · have e22 : ρ (.tmp 22) = .bool true := hd (6, 22) (by simp)
      have e34 : ρ (.tmp 34) = .bool true := hd (18, 34) (by simp)
      refine Goes.pure (.bool true) ?_ ⟨hC, Below.refl _ _, rfl⟩
      unfold Goes
      go_simp
    · have e35 : ρ (.tmp 35) = .bool true := hd (19, 35) (by simp)
      refine Goes.pure (.bool true) ?_ ⟨hC, Below.refl _ _, rfl⟩
      unfold Goes
      go_simp
    · have e3 : ρ (.tmp 3) = .pointer (some ⟨g, 0, none⟩) := ho 3 (by simp)
      obtain ⟨c0, c1, c2⟩ := (b3.later hC).cells
      refine Goes.pure (.agg #[.bool s, .slice no nn nc, .slice eo en ec]) ?_ ⟨hC, Below.refl _ _, rfl⟩
      unfold Goes
      go_simp
    · have e4 : ρ (.tmp 4) = .pointer (some ⟨g + 1, 0, none⟩) := ho 4 (by simp)
      obtain ⟨c0, c1, c2⟩ := (b4.later hC).cells
      refine Goes.pure (.agg #[.bool t, .slice mo mn mc, .slice fo fn fc]) ?_ ⟨hC, Below.refl _ _, rfl⟩
      unfold Goes
      go_simp
    · have e5 : ρ (.tmp 5) = .pointer (some ⟨g + 2, 0, none⟩) := ho 5 (by simp)
      obtain ⟨c0, c1, c2⟩ := (b5.later hC).cells
      refine Goes.pure (.agg #[.bool r, .slice po pn pc, .slice ho_ hn_ hc_]) ?_ ⟨hC, Below.refl _ _, rfl⟩
      unfold Goes
      go_simp
    · have e37 : ρ (.tmp 37) = .agg #[.bool s, .slice no nn nc, .slice eo en ec] := hd (21, 37) (by simp)
      have e38 : ρ (.tmp 38) = .agg #[.bool t, .slice mo mn mc, .slice fo fn fc] := hd (22, 38) (by simp)
      have e39 : ρ (.tmp 39) = .agg #[.bool r, .slice po pn pc, .slice ho_ hn_ hc_] := hd (23, 39) (by simp)
      have lb : Below u.heap.size u (u.alloc (.cells #[.bool s, .slice no nn nc, .slice eo en ec, .bool t, .slice mo mn mc, .slice fo fn fc, .bool r, .slice po pn pc, .slice ho_ hn_ hc_] 24)) := (Below.refl _ _).alloc (Nat.le_refl _) _
      refine Goes.run (.slice (some ⟨u.heap.size, 0, none⟩) 3 3) (u.alloc (.cells #[.bool s, .slice no nn nc, .slice eo en ec, .bool t, .slice mo mn mc, .slice fo fn fc, .bool r, .slice po pn pc, .slice ho_ hn_ hc_] 24)) (by go_simp) ⟨hC.trans (lb.mono hC.size), lb, ?_⟩
      exact VL.made [⟨s, no, nn, nc, eo, en, ec⟩, ⟨t, mo, mn, mc, fo, fn, fc⟩, ⟨r, po, pn, pc, ho_, hn_, hc_⟩] [qa, qb, qc] ⟨(ha.later hC).mono (by omega), (hb.later hC).mono (by omega), (hqc.later hC).mono (by omega), trivial⟩ _ rfl 3 rfl
    · have k40 : VL [qa, qb, qc] (K) (ρ (.tmp 40)) u := hd (24, 40) (by simp)
      refine Goes.call 25 #[ρ (.tmp 40)] (by go_simp) ?_
      refine Calls.mono (ratSum_k k40 (by omega) (by simp only [List.length_cons, List.length_nil]; omega)) ?_
      rintro e u' ⟨s1, no1, nn1, nc1, eo1, en1, ec1, rfl, cq, lb⟩
      exact ⟨_, rfl, hC.trans (lb.mono hC.size), lb, ⟨s1, no1, nn1, nc1, eo1, en1, ec1, rfl, by rw [qsum3] at cq; exact cq.mono (by simp only [List.length_cons, List.length_nil]; omega)⟩⟩
    · have e7 : ρ (.tmp 7) = .pointer (some ⟨g7, 0, none⟩) := ho 7 (by simp)
      obtain ⟨c0, c1, c2⟩ := (b7.later hC).cells
      refine Goes.pure (.agg #[.bool s1, .slice no1 nn1 nc1, .slice eo1 en1 ec1]) ?_ ⟨hC, Below.refl _ _, rfl⟩
      unfold Goes
      go_simp
    · have e5 : ρ (.tmp 5) = .pointer (some ⟨g + 2, 0, none⟩) := ho 5 (by simp)
      obtain ⟨c0, c1, c2⟩ := (b5.later hC).cells
      refine Goes.pure (.agg #[.bool r, .slice po pn pc, .slice ho_ hn_ hc_]) ?_ ⟨hC, Below.refl _ _, rfl⟩
      unfold Goes
      go_simp
    · have e42 : ρ (.tmp 42) = .agg #[.bool s1, .slice no1 nn1 nc1, .slice eo1 en1 ec1] := hd (26, 42) (by simp)
      have e43 : ρ (.tmp 43) = .agg #[.bool r, .slice po pn pc, .slice ho_ hn_ hc_] := hd (27, 43) (by simp)
      have lb : Below u.heap.size u (u.alloc (.cells #[.bool s1, .slice no1 nn1 nc1, .slice eo1 en1 ec1, .bool r, .slice po pn pc, .slice ho_ hn_ hc_] 24)) := (Below.refl _ _).alloc (Nat.le_refl _) _
      refine Goes.run (.slice (some ⟨u.heap.size, 0, none⟩) 2 2) (u.alloc (.cells #[.bool s1, .slice no1 nn1 nc1, .slice eo1 en1 ec1, .bool r, .slice po pn pc, .slice ho_ hn_ hc_] 24)) (by go_simp) ⟨hC.trans (lb.mono hC.size), lb, ?_⟩
      exact VL.made [⟨s1, no1, nn1, nc1, eo1, en1, ec1⟩, ⟨r, po, pn, pc, ho_, hn_, hc_⟩] [qa + qb, qc] ⟨(cq.later hC).rd.mono (by omega), (hqc.later hC).mono (by omega), trivial⟩ _ rfl 2 rfl
    · have k44 : VL [qa + qb, qc] (2 * (K + 1) + 1 + K) (ρ (.tmp 44)) u := hd (28, 44) (by simp)
      refine Goes.call 25 #[ρ (.tmp 44)] (by go_simp) ?_
      refine Calls.mono (ratSum_k k44 (by omega) (by simp only [List.length_cons, List.length_nil]; omega)) ?_
      rintro e u' ⟨s1, no1, nn1, nc1, eo1, en1, ec1, rfl, cq, lb⟩
      exact ⟨_, rfl, hC.trans (lb.mono hC.size), lb, ⟨s1, no1, nn1, nc1, eo1, en1, ec1, rfl, by rw [qsum2] at cq; exact cq.mono (by simp only [List.length_cons, List.length_nil]; omega)⟩⟩
    · obtain ⟨s41, no41, nn41, nc41, eo41, en41, ec41, e41, k41⟩ : VC (qa + qb + qc) (3 * (K + 1) + 1) (ρ (.tmp 41)) u := hd (25, 41) (by simp)
      obtain ⟨s45, no45, nn45, nc45, eo45, en45, ec45, e45, k45⟩ : VC ((qa + qb) + qc) (2 * (2 * (K + 1) + 1 + K + 1) + 1) (ρ (.tmp 45)) u := hd (29, 45) (by simp)
      refine Goes.call 10 #[.agg #[.bool s41, .slice no41 nn41 nc41, .slice eo41 en41 ec41], .agg #[.bool s45, .slice no45 nn45 nc45, .slice eo45 en45 ec45]] (by go_simp) ?_
      refine Calls.mono (is3_any u s41 no41 nn41 nc41 eo41 en41 ec41 s45 no45 nn45 nc45 eo45 en45 ec45 _ _ _ _ k41.num k41.den k45.num k45.den (by have := k41.ln; omega) (by have := k41.ld; omega) (by have := k45.ln; omega) (by have := k45.ld; omega)) ?_
      rintro e u' ⟨r, rfl, HR, lb⟩
      exact ⟨_, rfl, hC.trans (lb.mono hC.size), lb, by rw [HR.out.2 (cq_same k41 k45 (by grind))]; rfl⟩
    · have e36 : ρ (.tmp 36) = .bool true := hd (20, 36) (by simp)
      have e46 : ρ (.tmp 46) = .bool true := hd (30, 46) (by simp)
      refine Goes.pure (.bool true) ?_ ⟨hC, Below.refl _ _, rfl⟩
      unfold Goes
      go_simp
    · have e47 : ρ (.tmp 47) = .bool true := hd (31, 47) (by simp)
      refine Goes.pure (.bool true) ?_ ⟨hC, Below.refl _ _, rfl⟩
      unfold Goes
      go_simp
    · have e7 : ρ (.tmp 7) = .pointer (some ⟨g7, 0, none⟩) := ho 7 (by simp)
      obtain ⟨c0, c1, c2⟩ := (b7.later hC).cells
      refine Goes.pure (.agg #[.bool s1, .slice no1 nn1 nc1, .slice eo1 en1 ec1]) ?_ ⟨hC, Below.refl _ _, rfl⟩
      unfold Goes
      go_simp
    · have e4 : ρ (.tmp 4) = .pointer (some ⟨g + 1, 0, none⟩) := ho 4 (by simp)
      obtain ⟨c0, c1, c2⟩ := (b4.later hC).cells
      refine Goes.pure (.agg #[.bool t, .slice mo mn mc, .slice fo fn fc]) ?_ ⟨hC, Below.refl _ _, rfl⟩
      unfold Goes
      go_simp
    · have e49 : ρ (.tmp 49) = .agg #[.bool s1, .slice no1 nn1 nc1, .slice eo1 en1 ec1] := hd (33, 49) (by simp)
      have e50 : ρ (.tmp 50) = .agg #[.bool t, .slice mo mn mc, .slice fo fn fc] := hd (34, 50) (by simp)
      refine Goes.call 27 #[.agg #[.bool s1, .slice no1 nn1 nc1, .slice eo1 en1 ec1], .agg #[.bool t, .slice mo mn mc, .slice fo fn fc]] (by go_simp) ?_
      refine Calls.mono (ratSub_k (cq.later hC).rd (hb.later hC) (by omega) (by omega) (by omega)) ?_
      rintro e u' ⟨s1, no1, nn1, nc1, eo1, en1, ec1, rfl, cq, lb⟩
      exact ⟨_, rfl, hC.trans (lb.mono hC.size), lb, ⟨s1, no1, nn1, nc1, eo1, en1, ec1, rfl, cq⟩⟩
    · have e3 : ρ (.tmp 3) = .pointer (some ⟨g, 0, none⟩) := ho 3 (by simp)
      obtain ⟨c0, c1, c2⟩ := (b3.later hC).cells
      refine Goes.pure (.agg #[.bool s, .slice no nn nc, .slice eo en ec]) ?_ ⟨hC, Below.refl _ _, rfl⟩
      unfold Goes
      go_simp
    · have e52 : ρ (.tmp 52) = .agg #[.bool s, .slice no nn nc, .slice eo en ec] := hd (36, 52) (by simp)
      refine Goes.call 11 #[.agg #[.bool s, .slice no nn nc, .slice eo en ec]] (by go_simp) ?_
      refine Calls.mono (ratRead_k (ha.later hC) (by omega) (by omega)) ?_
      rintro e u' ⟨s1, no1, nn1, nc1, eo1, en1, ec1, rfl, cq, lb⟩
      exact ⟨_, rfl, hC.trans (lb.mono hC.size), lb, ⟨s1, no1, nn1, nc1, eo1, en1, ec1, rfl, cq⟩⟩
    · obtain ⟨s51, no51, nn51, nc51, eo51, en51, ec51, e51, k51⟩ : VC (qa + qb - (qb)) (2 * (K + 1) + 1 + (K) + 1) (ρ (.tmp 51)) u := hd (35, 51) (by simp)
      obtain ⟨s53, no53, nn53, nc53, eo53, en53, ec53, e53, k53⟩ : VC (qa) (K) (ρ (.tmp 53)) u := hd (37, 53) (by simp)
      refine Goes.call 10 #[.agg #[.bool s51, .slice no51 nn51 nc51, .slice eo51 en51 ec51], .agg #[.bool s53, .slice no53 nn53 nc53, .slice eo53 en53 ec53]] (by go_simp) ?_
      refine Calls.mono (is3_any u s51 no51 nn51 nc51 eo51 en51 ec51 s53 no53 nn53 nc53 eo53 en53 ec53 _ _ _ _ k51.num k51.den k53.num k53.den (by have := k51.ln; omega) (by have := k51.ld; omega) (by have := k53.ln; omega) (by have := k53.ld; omega)) ?_
      rintro e u' ⟨r, rfl, HR, lb⟩
      exact ⟨_, rfl, hC.trans (lb.mono hC.size), lb, by rw [HR.out.2 (cq_same k51 k53 (by grind))]; rfl⟩
    · have e48 : ρ (.tmp 48) = .bool true := hd (32, 48) (by simp)
      have e54 : ρ (.tmp 54) = .bool true := hd (38, 54) (by simp)
      refine Goes.pure (.bool true) ?_ ⟨hC, Below.refl _ _, rfl⟩
      unfold Goes
      go_simp
    · have e55 : ρ (.tmp 55) = .bool true := hd (39, 55) (by simp)
      refine Goes.pure (.bool true) ?_ ⟨hC, Below.refl _ _, rfl⟩
      unfold Goes
      go_simp
    · have e3 : ρ (.tmp 3) = .pointer (some ⟨g, 0, none⟩) := ho 3 (by simp)
      obtain ⟨c0, c1, c2⟩ := (b3.later hC).cells
      refine Goes.pure (.agg #[.bool s, .slice no nn nc, .slice eo en ec]) ?_ ⟨hC, Below.refl _ _, rfl⟩
      unfold Goes
      go_simp
    · have e3 : ρ (.tmp 3) = .pointer (some ⟨g, 0, none⟩) := ho 3 (by simp)
      obtain ⟨c0, c1, c2⟩ := (b3.later hC).cells
      refine Goes.pure (.agg #[.bool s, .slice no nn nc, .slice eo en ec]) ?_ ⟨hC, Below.refl _ _, rfl⟩
      unfold Goes
      go_simp
    · have e58 : ρ (.tmp 58) = .agg #[.bool s, .slice no nn nc, .slice eo en ec] := hd (42, 58) (by simp)
      refine Goes.call 19 #[.agg #[.bool s, .slice no nn nc, .slice eo en ec]] (by go_simp) ?_
      refine Calls.mono (ratNeg_k (ha.later hC) (by omega) (by omega)) ?_
      rintro e u' ⟨s1, no1, nn1, nc1, eo1, en1, ec1, rfl, cq, lb⟩
      exact ⟨_, rfl, hC.trans (lb.mono hC.size), lb, ⟨s1, no1, nn1, nc1, eo1, en1, ec1, rfl, cq⟩⟩
    · have e57 : ρ (.tmp 57) = .agg #[.bool s, .slice no nn nc, .slice eo en ec] := hd (41, 57) (by simp)
      obtain ⟨s59, no59, nn59, nc59, eo59, en59, ec59, e59, k59⟩ : VC (-(qa)) (K) (ρ (.tmp 59)) u := hd (43, 59) (by simp)
      have lb : Below u.heap.size u (u.alloc (.cells #[.bool s, .slice no nn nc, .slice eo en ec, .bool s59, .slice no59 nn59 nc59, .slice eo59 en59 ec59] 24)) := (Below.refl _ _).alloc (Nat.le_refl _) _
      refine Goes.run (.slice (some ⟨u.heap.size, 0, none⟩) 2 2) (u.alloc (.cells #[.bool s, .slice no nn nc, .slice eo en ec, .bool s59, .slice no59 nn59 nc59, .slice eo59 en59 ec59] 24)) (by go_simp) ⟨hC.trans (lb.mono hC.size), lb, ?_⟩
      exact VL.made [⟨s, no, nn, nc, eo, en, ec⟩, ⟨s59, no59, nn59, nc59, eo59, en59, ec59⟩] [qa, -(qa)] ⟨(ha.later hC).mono (by omega), k59.rd.mono (by omega), trivial⟩ _ rfl 2 rfl
    · have k60 : VL [qa, -(qa)] (K) (ρ (.tmp 60)) u := hd (44, 60) (by simp)
      refine Goes.call 25 #[ρ (.tmp 60)] (by go_simp) ?_
      refine Calls.mono (ratSum_k k60 (by omega) (by simp only [List.length_cons, List.length_nil]; omega)) ?_
      rintro e u' ⟨s1, no1, nn1, nc1, eo1, en1, ec1, rfl, cq, lb⟩
      exact ⟨_, rfl, hC.trans (lb.mono hC.size), lb, ⟨s1, no1, nn1, nc1, eo1, en1, ec1, rfl, by rw [qsum2] at cq; exact cq.mono (by simp only [List.length_cons, List.length_nil]; omega)⟩⟩
    · obtain ⟨s61, no61, nn61, nc61, eo61, en61, ec61, e61, k61⟩ : VC (qa + -(qa)) (2 * (K + 1) + 1) (ρ (.tmp 61)) u := hd (45, 61) (by simp)
      refine Goes.call 15 #[.agg #[.bool s61, .slice no61 nn61 nc61, .slice eo61 en61 ec61]] (by go_simp) ?_
      refine Calls.mono (ratSign_k k61.rd (by omega)) ?_
      rintro e u' ⟨rfl, lb⟩
      exact ⟨_, rfl, hC.trans (lb.mono hC.size), lb, rfl⟩
    · have e62 : ρ (.tmp 62) = .int .i64 (qsgn (qa + -(qa))) := hd (46, 62) (by simp)
      have hb0 : qsgn (qa + (-(qa))) = 0 := by rw [show qa + (-(qa)) = 0 from by grind]; rfl
      refine Goes.pure (.bool true) ?_ ⟨hC, Below.refl _ _, rfl⟩
      unfold Goes
      go_simp
    · have e56 : ρ (.tmp 56) = .bool true := hd (40, 56) (by simp)
      have e63 : ρ (.tmp 63) = .bool true := hd (47, 63) (by simp)
      refine Goes.pure (.bool true) ?_ ⟨hC, Below.refl _ _, rfl⟩
      unfold Goes
      go_simp
  · intro vsA w4 lb hv
    have eR : vsA 48 = .bool true := hv 48 (by omega)
    clear hv
    replace ha := ha.later lb
    replace hb := hb.later lb
    replace hqc := hqc.later lb
    replace cq := cq.later lb
    replace b3 := b3.later lb
    replace b4 := b4.later lb
    replace b5 := b5.later lb
    replace b7 := b7.later lb
    have B4 := B3.trans (lb.mono B3.size)
    clear B3 lb
    simp only [puts, List.take, List.drop, Act.put, List.setIfInBounds_toArray, List.set_cons_succ, List.set_cons_zero, Nat.reduceAdd, eR]
    clear eR
    go_wp2
    have HLst : Lst [VV (.agg #[.bool s, .slice no nn nc, .slice eo en ec]), VV (.agg #[.bool t, .slice mo mn mc, .slice fo fn fc]), VL [qa, qb] (K), VC (qa * qb) (2 * (K + 1) + 1), VV (.agg #[.bool t, .slice mo mn mc, .slice fo fn fc]), VV (.agg #[.bool s, .slice no nn nc, .slice eo en ec]), VL [qb, qa] (K), VC (qb * qa) (2 * (K + 1) + 1), VV (.bool true), VV (.bool true), VV (.agg #[.bool s, .slice no nn nc, .slice eo en ec]), VV (.agg #[.bool t, .slice mo mn mc, .slice fo fn fc]), VV (.agg #[.bool r, .slice po pn pc, .slice ho_ hn_ hc_]), VL [qb, qc] (K), VC (qb * qc) (2 * (K + 1) + 1), VL [qa, qb * qc] (K + 2 * (K + 1) + 1), VC (qa * (qb * qc)) (2 * (K + 2 * (K + 1) + 1 + 1) + 1), VV (.agg #[.bool s, .slice no nn nc, .slice eo en ec]), VV (.agg #[.bool t, .slice mo mn mc, .slice fo fn fc]), VV (.agg #[.bool r, .slice po pn pc, .slice ho_ hn_ hc_]), VL [qa, qb, qc] (K), VC (qa * qb * qc) (3 * (K + 1) + 1), VV (.bool true), VV (.bool true), VV (.bool true), VV (.agg #[.bool s1, .slice no1 nn1 nc1, .slice eo1 en1 ec1]), VV (.agg #[.bool r, .slice po pn pc, .slice ho_ hn_ hc_]), VL [qa + qb, qc] (2 * (K + 1) + 1 + K), VC ((qa + qb) * qc) (2 * (2 * (K + 1) + 1 + K + 1) + 1), VV (.agg #[.bool s, .slice no nn nc, .slice eo en ec]), VV (.agg #[.bool r, .slice po pn pc, .slice ho_ hn_ hc_]), VL [qa, qc] (K), VC (qa * qc) (2 * (K + 1) + 1), VV (.agg #[.bool t, .slice mo mn mc, .slice fo fn fc]), VV (.agg #[.bool r, .slice po pn pc, .slice ho_ hn_ hc_]), VL [qb, qc] (K), VC (qb * qc) (2 * (K + 1) + 1), VL [qa * qc, qb * qc] (2 * (K + 1) + 1), VC ((qa * qc) + (qb * qc)) (2 * (2 * (K + 1) + 1 + 1) + 1), VV (.bool true), VV (.bool true)] := ⟨VV.lasts _, VV.lasts _, VL.lasts _ _, VC.lasts _ _, VV.lasts _, VV.lasts _, VL.lasts _ _, VC.lasts _ _, VV.lasts _, VV.lasts _, VV.lasts _, VV.lasts _, VV.lasts _, VL.lasts _ _, VC.lasts _ _, VL.lasts _ _, VC.lasts _ _, VV.lasts _, VV.lasts _, VV.lasts _, VL.lasts _ _, VC.lasts _ _, VV.lasts _, VV.lasts _, VV.lasts _, VV.lasts _, VV.lasts _, VL.lasts _ _, VC.lasts _ _, VV.lasts _, VV.lasts _, VL.lasts _ _, VC.lasts _ _, VV.lasts _, VV.lasts _, VL.lasts _ _, VC.lasts _ _, VL.lasts _ _, VC.lasts _ _, VV.lasts _, VV.lasts _, trivial⟩
    refine wp_region_kahn 41 139 [([], [3]), ([], [4]), ([(0, 65), (1, 66)], []), ([(2, 67)], []), ([], [4]), ([], [3]), ([(4, 69), (5, 70)], []), ([(6, 71)], []), ([(3, 68), (7, 72)], []), ([(8, 73)], []), ([], [3]), ([], [4]), ([], [5]), ([(11, 76), (12, 77)], []), ([(13, 78)], []), ([(10, 75), (14, 79)], []), ([(15, 80)], []), ([], [3]), ([], [4]), ([], [5]), ([(17, 82), (18, 83), (19, 84)], []), ([(20, 85)], []), ([(16, 81), (21, 86)], []), ([(9, 74), (22, 87)], []), ([(23, 88)], []), ([], [7]), ([], [5]), ([(25, 90), (26, 91)], []), ([(27, 92)], []), ([], [3]), ([], [5]), ([(29, 94), (30, 95)], []), ([(31, 96)], []), ([], [4]), ([], [5]), ([(33, 98), (34, 99)], []), ([(35, 100)], []), ([(32, 97), (36, 101)], []), ([(37, 102)], []), ([(28, 93), (38, 103)], []), ([(24, 89), (39, 104)], [])]
      (fun u => Below w4.heap.size w4 u) (fun u u' => Below u.heap.size u u')
      (Sp [VV (.agg #[.bool s, .slice no nn nc, .slice eo en ec]), VV (.agg #[.bool t, .slice mo mn mc, .slice fo fn fc]), VL [qa, qb] (K), VC (qa * qb) (2 * (K + 1) + 1), VV (.agg #[.bool t, .slice mo mn mc, .slice fo fn fc]), VV (.agg #[.bool s, .slice no nn nc, .slice eo en ec]), VL [qb, qa] (K), VC (qb * qa) (2 * (K + 1) + 1), VV (.bool true), VV (.bool true), VV (.agg #[.bool s, .slice no nn nc, .slice eo en ec]), VV (.agg #[.bool t, .slice mo mn mc, .slice fo fn fc]), VV (.agg #[.bool r, .slice po pn pc, .slice ho_ hn_ hc_]), VL [qb, qc] (K), VC (qb * qc) (2 * (K + 1) + 1), VL [qa, qb * qc] (K + 2 * (K + 1) + 1), VC (qa * (qb * qc)) (2 * (K + 2 * (K + 1) + 1 + 1) + 1), VV (.agg #[.bool s, .slice no nn nc, .slice eo en ec]), VV (.agg #[.bool t, .slice mo mn mc, .slice fo fn fc]), VV (.agg #[.bool r, .slice po pn pc, .slice ho_ hn_ hc_]), VL [qa, qb, qc] (K), VC (qa * qb * qc) (3 * (K + 1) + 1), VV (.bool true), VV (.bool true), VV (.bool true), VV (.agg #[.bool s1, .slice no1 nn1 nc1, .slice eo1 en1 ec1]), VV (.agg #[.bool r, .slice po pn pc, .slice ho_ hn_ hc_]), VL [qa + qb, qc] (2 * (K + 1) + 1 + K), VC ((qa + qb) * qc) (2 * (2 * (K + 1) + 1 + K + 1) + 1), VV (.agg #[.bool s, .slice no nn nc, .slice eo en ec]), VV (.agg #[.bool r, .slice po pn pc, .slice ho_ hn_ hc_]), VL [qa, qc] (K), VC (qa * qc) (2 * (K + 1) + 1), VV (.agg #[.bool t, .slice mo mn mc, .slice fo fn fc]), VV (.agg #[.bool r, .slice po pn pc, .slice ho_ hn_ hc_]), VL [qb, qc] (K), VC (qb * qc) (2 * (K + 1) + 1), VL [qa * qc, qb * qc] (2 * (K + 1) + 1), VC ((qa * qc) + (qb * qc)) (2 * (2 * (K + 1) + 1 + 1) + 1), VV (.bool true), VV (.bool true)])
      (by kernel_rfl) rfl (by kernel_rfl) (Below.refl _ _).drew (fun k v u u' _ hg hs => Sp.lasts HLst k v u u' hg hs) ?_ ?_
    · clear HLst
      refine ⟨.inl ⟨by simp, fun ρ u hC hc hf hd ho => ?_⟩, .inl ⟨by simp, fun ρ u hC hc hf hd ho => ?_⟩, .inl ⟨by simp, fun ρ u hC hc hf hd ho => ?_⟩, .inl ⟨by simp, fun ρ u hC hc hf hd ho => ?_⟩, .inl ⟨by simp, fun ρ u hC hc hf hd ho => ?_⟩, .inl ⟨by simp, fun ρ u hC hc hf hd ho => ?_⟩, .inl ⟨by simp, fun ρ u hC hc hf hd ho => ?_⟩, .inl ⟨by simp, fun ρ u hC hc hf hd ho => ?_⟩, .inl ⟨by simp, fun ρ u hC hc hf hd ho => ?_⟩, .inl ⟨by simp, fun ρ u hC hc hf hd ho => ?_⟩, .inl ⟨guard_of rfl fun _ _ h => h, fun ρ u hC hc hf hd ho => ?_⟩, .inl ⟨guard_of rfl fun _ _ h => h, fun ρ u hC hc hf hd ho => ?_⟩, .inl ⟨guard_of rfl fun _ _ h => h, fun ρ u hC hc hf hd ho => ?_⟩, .inl ⟨guard_of rfl fun _ _ h => h, fun ρ u hC hc hf hd ho => ?_⟩, .inl ⟨guard_of rfl fun _ _ h => h, fun ρ u hC hc hf hd ho => ?_⟩, .inl ⟨guard_of rfl fun _ _ h => h, fun ρ u hC hc hf hd ho => ?_⟩, .inl ⟨guard_of rfl fun _ _ h => h, fun ρ u hC hc hf hd ho => ?_⟩, .inl ⟨guard_of rfl fun _ _ h => h, fun ρ u hC hc hf hd ho => ?_⟩, .inl ⟨guard_of rfl fun _ _ h => h, fun ρ u hC hc hf hd ho => ?_⟩, .inl ⟨guard_of rfl fun _ _ h => h, fun ρ u hC hc hf hd ho => ?_⟩, .inl ⟨guard_of rfl fun _ _ h => h, fun ρ u hC hc hf hd ho => ?_⟩, .inl ⟨guard_of rfl fun _ _ h => h, fun ρ u hC hc hf hd ho => ?_⟩, .inl ⟨guard_of rfl fun _ _ h => h, fun ρ u hC hc hf hd ho => ?_⟩, .inl ⟨by simp, fun ρ u hC hc hf hd ho => ?_⟩, .inl ⟨by simp, fun ρ u hC hc hf hd ho => ?_⟩, .inl ⟨guard_of rfl fun _ _ h => h, fun ρ u hC hc hf hd ho => ?_⟩, .inl ⟨guard_of rfl fun _ _ h => h, fun ρ u hC hc hf hd ho => ?_⟩, .inl ⟨guard_of rfl fun _ _ h => h, fun ρ u hC hc hf hd ho => ?_⟩, .inl ⟨guard_of rfl fun _ _ h => h, fun ρ u hC hc hf hd ho => ?_⟩, .inl ⟨guard_of rfl fun _ _ h => h, fun ρ u hC hc hf hd ho => ?_⟩, .inl ⟨guard_of rfl fun _ _ h => h, fun ρ u hC hc hf hd ho => ?_⟩, .inl ⟨guard_of rfl fun _ _ h => h, fun ρ u hC hc hf hd ho => ?_⟩, .inl ⟨guard_of rfl fun _ _ h => h, fun ρ u hC hc hf hd ho => ?_⟩, .inl ⟨guard_of rfl fun _ _ h => h, fun ρ u hC hc hf hd ho => ?_⟩, .inl ⟨guard_of rfl fun _ _ h => h, fun ρ u hC hc hf hd ho => ?_⟩, .inl ⟨guard_of rfl fun _ _ h => h, fun ρ u hC hc hf hd ho => ?_⟩, .inl ⟨guard_of rfl fun _ _ h => h, fun ρ u hC hc hf hd ho => ?_⟩, .inl ⟨guard_of rfl fun _ _ h => h, fun ρ u hC hc hf hd ho => ?_⟩, .inl ⟨guard_of rfl fun _ _ h => h, fun ρ u hC hc hf hd ho => ?_⟩, .inl ⟨guard_of rfl fun _ _ h => h, fun ρ u hC hc hf hd ho => ?_⟩, .inl ⟨by simp, fun ρ u hC hc hf hd ho => ?_⟩, trivial⟩
      · have e3 : ρ (.tmp 3) = .pointer (some ⟨g, 0, none⟩) := ho 3 (by simp)
        obtain ⟨c0, c1, c2⟩ := (b3.later hC).cells
        refine Goes.pure (.agg #[.bool s, .slice no nn nc, .slice eo en ec]) ?_ ⟨hC, Below.refl _ _, rfl⟩
        unfold Goes
        go_simp
      · have e4 : ρ (.tmp 4) = .pointer (some ⟨g + 1, 0, none⟩) := ho 4 (by simp)
        obtain ⟨c0, c1, c2⟩ := (b4.later hC).cells
        refine Goes.pure (.agg #[.bool t, .slice mo mn mc, .slice fo fn fc]) ?_ ⟨hC, Below.refl _ _, rfl⟩
        unfold Goes
        go_simp
      · have e65 : ρ (.tmp 65) = .agg #[.bool s, .slice no nn nc, .slice eo en ec] := hd (0, 65) (by simp)
        have e66 : ρ (.tmp 66) = .agg #[.bool t, .slice mo mn mc, .slice fo fn fc] := hd (1, 66) (by simp)
        have lb : Below u.heap.size u (u.alloc (.cells #[.bool s, .slice no nn nc, .slice eo en ec, .bool t, .slice mo mn mc, .slice fo fn fc] 24)) := (Below.refl _ _).alloc (Nat.le_refl _) _
        refine Goes.run (.slice (some ⟨u.heap.size, 0, none⟩) 2 2) (u.alloc (.cells #[.bool s, .slice no nn nc, .slice eo en ec, .bool t, .slice mo mn mc, .slice fo fn fc] 24)) (by go_simp) ⟨hC.trans (lb.mono hC.size), lb, ?_⟩
        exact VL.made [⟨s, no, nn, nc, eo, en, ec⟩, ⟨t, mo, mn, mc, fo, fn, fc⟩] [qa, qb] ⟨(ha.later hC).mono (by omega), (hb.later hC).mono (by omega), trivial⟩ _ rfl 2 rfl
      · have k67 : VL [qa, qb] (K) (ρ (.tmp 67)) u := hd (2, 67) (by simp)
        refine Goes.call 29 #[ρ (.tmp 67)] (by go_simp) ?_
        refine Calls.mono (ratProduct_k k67 (by omega) (by simp only [List.length_cons, List.length_nil]; omega)) ?_
        rintro e u' ⟨s1, no1, nn1, nc1, eo1, en1, ec1, rfl, cq, lb⟩
        exact ⟨_, rfl, hC.trans (lb.mono hC.size), lb, ⟨s1, no1, nn1, nc1, eo1, en1, ec1, rfl, by rw [qprod2] at cq; exact cq.mono (by simp only [List.length_cons, List.length_nil]; omega)⟩⟩
      · have e4 : ρ (.tmp 4) = .pointer (some ⟨g + 1, 0, none⟩) := ho 4 (by simp)
        obtain ⟨c0, c1, c2⟩ := (b4.later hC).cells
        refine Goes.pure (.agg #[.bool t, .slice mo mn mc, .slice fo fn fc]) ?_ ⟨hC, Below.refl _ _, rfl⟩
        unfold Goes
        go_simp
      · have e3 : ρ (.tmp 3) = .pointer (some ⟨g, 0, none⟩) := ho 3 (by simp)
        obtain ⟨c0, c1, c2⟩ := (b3.later hC).cells
        refine Goes.pure (.agg #[.bool s, .slice no nn nc, .slice eo en ec]) ?_ ⟨hC, Below.refl _ _, rfl⟩
        unfold Goes
        go_simp
      · have e69 : ρ (.tmp 69) = .agg #[.bool t, .slice mo mn mc, .slice fo fn fc] := hd (4, 69) (by simp)
        have e70 : ρ (.tmp 70) = .agg #[.bool s, .slice no nn nc, .slice eo en ec] := hd (5, 70) (by simp)
        have lb : Below u.heap.size u (u.alloc (.cells #[.bool t, .slice mo mn mc, .slice fo fn fc, .bool s, .slice no nn nc, .slice eo en ec] 24)) := (Below.refl _ _).alloc (Nat.le_refl _) _
        refine Goes.run (.slice (some ⟨u.heap.size, 0, none⟩) 2 2) (u.alloc (.cells #[.bool t, .slice mo mn mc, .slice fo fn fc, .bool s, .slice no nn nc, .slice eo en ec] 24)) (by go_simp) ⟨hC.trans (lb.mono hC.size), lb, ?_⟩
        exact VL.made [⟨t, mo, mn, mc, fo, fn, fc⟩, ⟨s, no, nn, nc, eo, en, ec⟩] [qb, qa] ⟨(hb.later hC).mono (by omega), (ha.later hC).mono (by omega), trivial⟩ _ rfl 2 rfl
      · have k71 : VL [qb, qa] (K) (ρ (.tmp 71)) u := hd (6, 71) (by simp)
        refine Goes.call 29 #[ρ (.tmp 71)] (by go_simp) ?_
        refine Calls.mono (ratProduct_k k71 (by omega) (by simp only [List.length_cons, List.length_nil]; omega)) ?_
        rintro e u' ⟨s1, no1, nn1, nc1, eo1, en1, ec1, rfl, cq, lb⟩
        exact ⟨_, rfl, hC.trans (lb.mono hC.size), lb, ⟨s1, no1, nn1, nc1, eo1, en1, ec1, rfl, by rw [qprod2] at cq; exact cq.mono (by simp only [List.length_cons, List.length_nil]; omega)⟩⟩
      · obtain ⟨s68, no68, nn68, nc68, eo68, en68, ec68, e68, k68⟩ : VC (qa * qb) (2 * (K + 1) + 1) (ρ (.tmp 68)) u := hd (3, 68) (by simp)
        obtain ⟨s72, no72, nn72, nc72, eo72, en72, ec72, e72, k72⟩ : VC (qb * qa) (2 * (K + 1) + 1) (ρ (.tmp 72)) u := hd (7, 72) (by simp)
        refine Goes.call 10 #[.agg #[.bool s68, .slice no68 nn68 nc68, .slice eo68 en68 ec68], .agg #[.bool s72, .slice no72 nn72 nc72, .slice eo72 en72 ec72]] (by go_simp) ?_
        refine Calls.mono (is3_any u s68 no68 nn68 nc68 eo68 en68 ec68 s72 no72 nn72 nc72 eo72 en72 ec72 _ _ _ _ k68.num k68.den k72.num k72.den (by have := k68.ln; omega) (by have := k68.ld; omega) (by have := k72.ln; omega) (by have := k72.ld; omega)) ?_
        rintro e u' ⟨r, rfl, HR, lb⟩
        exact ⟨_, rfl, hC.trans (lb.mono hC.size), lb, by rw [HR.out.2 (cq_same k68 k72 (by grind))]; rfl⟩
      · have e73 : ρ (.tmp 73) = .bool true := hd (8, 73) (by simp)
        refine Goes.pure (.bool true) ?_ ⟨hC, Below.refl _ _, rfl⟩
        unfold Goes
        go_simp
      · have e3 : ρ (.tmp 3) = .pointer (some ⟨g, 0, none⟩) := ho 3 (by simp)
        obtain ⟨c0, c1, c2⟩ := (b3.later hC).cells
        refine Goes.pure (.agg #[.bool s, .slice no nn nc, .slice eo en ec]) ?_ ⟨hC, Below.refl _ _, rfl⟩
        unfold Goes
        go_simp
      · have e4 : ρ (.tmp 4) = .pointer (some ⟨g + 1, 0, none⟩) := ho 4 (by simp)
        obtain ⟨c0, c1, c2⟩ := (b4.later hC).cells
        refine Goes.pure (.agg #[.bool t, .slice mo mn mc, .slice fo fn fc]) ?_ ⟨hC, Below.refl _ _, rfl⟩
        unfold Goes
        go_simp
      · have e5 : ρ (.tmp 5) = .pointer (some ⟨g + 2, 0, none⟩) := ho 5 (by simp)
        obtain ⟨c0, c1, c2⟩ := (b5.later hC).cells
        refine Goes.pure (.agg #[.bool r, .slice po pn pc, .slice ho_ hn_ hc_]) ?_ ⟨hC, Below.refl _ _, rfl⟩
        unfold Goes
        go_simp
      · have e76 : ρ (.tmp 76) = .agg #[.bool t, .slice mo mn mc, .slice fo fn fc] := hd (11, 76) (by simp)
        have e77 : ρ (.tmp 77) = .agg #[.bool r, .slice po pn pc, .slice ho_ hn_ hc_] := hd (12, 77) (by simp)
        have lb : Below u.heap.size u (u.alloc (.cells #[.bool t, .slice mo mn mc, .slice fo fn fc, .bool r, .slice po pn pc, .slice ho_ hn_ hc_] 24)) := (Below.refl _ _).alloc (Nat.le_refl _) _
        refine Goes.run (.slice (some ⟨u.heap.size, 0, none⟩) 2 2) (u.alloc (.cells #[.bool t, .slice mo mn mc, .slice fo fn fc, .bool r, .slice po pn pc, .slice ho_ hn_ hc_] 24)) (by go_simp) ⟨hC.trans (lb.mono hC.size), lb, ?_⟩
        exact VL.made [⟨t, mo, mn, mc, fo, fn, fc⟩, ⟨r, po, pn, pc, ho_, hn_, hc_⟩] [qb, qc] ⟨(hb.later hC).mono (by omega), (hqc.later hC).mono (by omega), trivial⟩ _ rfl 2 rfl
      · have k78 : VL [qb, qc] (K) (ρ (.tmp 78)) u := hd (13, 78) (by simp)
        refine Goes.call 29 #[ρ (.tmp 78)] (by go_simp) ?_
        refine Calls.mono (ratProduct_k k78 (by omega) (by simp only [List.length_cons, List.length_nil]; omega)) ?_
        rintro e u' ⟨s1, no1, nn1, nc1, eo1, en1, ec1, rfl, cq, lb⟩
        exact ⟨_, rfl, hC.trans (lb.mono hC.size), lb, ⟨s1, no1, nn1, nc1, eo1, en1, ec1, rfl, by rw [qprod2] at cq; exact cq.mono (by simp only [List.length_cons, List.length_nil]; omega)⟩⟩
      · have e75 : ρ (.tmp 75) = .agg #[.bool s, .slice no nn nc, .slice eo en ec] := hd (10, 75) (by simp)
        obtain ⟨s79, no79, nn79, nc79, eo79, en79, ec79, e79, k79⟩ : VC (qb * qc) (2 * (K + 1) + 1) (ρ (.tmp 79)) u := hd (14, 79) (by simp)
        have lb : Below u.heap.size u (u.alloc (.cells #[.bool s, .slice no nn nc, .slice eo en ec, .bool s79, .slice no79 nn79 nc79, .slice eo79 en79 ec79] 24)) := (Below.refl _ _).alloc (Nat.le_refl _) _
        refine Goes.run (.slice (some ⟨u.heap.size, 0, none⟩) 2 2) (u.alloc (.cells #[.bool s, .slice no nn nc, .slice eo en ec, .bool s79, .slice no79 nn79 nc79, .slice eo79 en79 ec79] 24)) (by go_simp) ⟨hC.trans (lb.mono hC.size), lb, ?_⟩
        exact VL.made [⟨s, no, nn, nc, eo, en, ec⟩, ⟨s79, no79, nn79, nc79, eo79, en79, ec79⟩] [qa, qb * qc] ⟨(ha.later hC).mono (by omega), k79.rd.mono (by omega), trivial⟩ _ rfl 2 rfl
      · have k80 : VL [qa, qb * qc] (K + 2 * (K + 1) + 1) (ρ (.tmp 80)) u := hd (15, 80) (by simp)
        refine Goes.call 29 #[ρ (.tmp 80)] (by go_simp) ?_
        refine Calls.mono (ratProduct_k k80 (by omega) (by simp only [List.length_cons, List.length_nil]; omega)) ?_
        rintro e u' ⟨s1, no1, nn1, nc1, eo1, en1, ec1, rfl, cq, lb⟩
        exact ⟨_, rfl, hC.trans (lb.mono hC.size), lb, ⟨s1, no1, nn1, nc1, eo1, en1, ec1, rfl, by rw [qprod2] at cq; exact cq.mono (by simp only [List.length_cons, List.length_nil]; omega)⟩⟩
      · have e3 : ρ (.tmp 3) = .pointer (some ⟨g, 0, none⟩) := ho 3 (by simp)
        obtain ⟨c0, c1, c2⟩ := (b3.later hC).cells
        refine Goes.pure (.agg #[.bool s, .slice no nn nc, .slice eo en ec]) ?_ ⟨hC, Below.refl _ _, rfl⟩
        unfold Goes
        go_simp
      · have e4 : ρ (.tmp 4) = .pointer (some ⟨g + 1, 0, none⟩) := ho 4 (by simp)
        obtain ⟨c0, c1, c2⟩ := (b4.later hC).cells
        refine Goes.pure (.agg #[.bool t, .slice mo mn mc, .slice fo fn fc]) ?_ ⟨hC, Below.refl _ _, rfl⟩
        unfold Goes
        go_simp
      · have e5 : ρ (.tmp 5) = .pointer (some ⟨g + 2, 0, none⟩) := ho 5 (by simp)
        obtain ⟨c0, c1, c2⟩ := (b5.later hC).cells
        refine Goes.pure (.agg #[.bool r, .slice po pn pc, .slice ho_ hn_ hc_]) ?_ ⟨hC, Below.refl _ _, rfl⟩
        unfold Goes
        go_simp
      · have e82 : ρ (.tmp 82) = .agg #[.bool s, .slice no nn nc, .slice eo en ec] := hd (17, 82) (by simp)
        have e83 : ρ (.tmp 83) = .agg #[.bool t, .slice mo mn mc, .slice fo fn fc] := hd (18, 83) (by simp)
        have e84 : ρ (.tmp 84) = .agg #[.bool r, .slice po pn pc, .slice ho_ hn_ hc_] := hd (19, 84) (by simp)
        have lb : Below u.heap.size u (u.alloc (.cells #[.bool s, .slice no nn nc, .slice eo en ec, .bool t, .slice mo mn mc, .slice fo fn fc, .bool r, .slice po pn pc, .slice ho_ hn_ hc_] 24)) := (Below.refl _ _).alloc (Nat.le_refl _) _
        refine Goes.run (.slice (some ⟨u.heap.size, 0, none⟩) 3 3) (u.alloc (.cells #[.bool s, .slice no nn nc, .slice eo en ec, .bool t, .slice mo mn mc, .slice fo fn fc, .bool r, .slice po pn pc, .slice ho_ hn_ hc_] 24)) (by go_simp) ⟨hC.trans (lb.mono hC.size), lb, ?_⟩
        exact VL.made [⟨s, no, nn, nc, eo, en, ec⟩, ⟨t, mo, mn, mc, fo, fn, fc⟩, ⟨r, po, pn, pc, ho_, hn_, hc_⟩] [qa, qb, qc] ⟨(ha.later hC).mono (by omega), (hb.later hC).mono (by omega), (hqc.later hC).mono (by omega), trivial⟩ _ rfl 3 rfl
      · have k85 : VL [qa, qb, qc] (K) (ρ (.tmp 85)) u := hd (20, 85) (by simp)
        refine Goes.call 29 #[ρ (.tmp 85)] (by go_simp) ?_
        refine Calls.mono (ratProduct_k k85 (by omega) (by simp only [List.length_cons, List.length_nil]; omega)) ?_
        rintro e u' ⟨s1, no1, nn1, nc1, eo1, en1, ec1, rfl, cq, lb⟩
        exact ⟨_, rfl, hC.trans (lb.mono hC.size), lb, ⟨s1, no1, nn1, nc1, eo1, en1, ec1, rfl, by rw [qprod3] at cq; exact cq.mono (by simp only [List.length_cons, List.length_nil]; omega)⟩⟩
      · obtain ⟨s81, no81, nn81, nc81, eo81, en81, ec81, e81, k81⟩ : VC (qa * (qb * qc)) (2 * (K + 2 * (K + 1) + 1 + 1) + 1) (ρ (.tmp 81)) u := hd (16, 81) (by simp)
        obtain ⟨s86, no86, nn86, nc86, eo86, en86, ec86, e86, k86⟩ : VC (qa * qb * qc) (3 * (K + 1) + 1) (ρ (.tmp 86)) u := hd (21, 86) (by simp)
        refine Goes.call 10 #[.agg #[.bool s81, .slice no81 nn81 nc81, .slice eo81 en81 ec81], .agg #[.bool s86, .slice no86 nn86 nc86, .slice eo86 en86 ec86]] (by go_simp) ?_
        refine Calls.mono (is3_any u s81 no81 nn81 nc81 eo81 en81 ec81 s86 no86 nn86 nc86 eo86 en86 ec86 _ _ _ _ k81.num k81.den k86.num k86.den (by have := k81.ln; omega) (by have := k81.ld; omega) (by have := k86.ln; omega) (by have := k86.ld; omega)) ?_
        rintro e u' ⟨r, rfl, HR, lb⟩
        exact ⟨_, rfl, hC.trans (lb.mono hC.size), lb, by rw [HR.out.2 (cq_same k81 k86 (by grind))]; rfl⟩
      · have e74 : ρ (.tmp 74) = .bool true := hd (9, 74) (by simp)
        have e87 : ρ (.tmp 87) = .bool true := hd (22, 87) (by simp)
        refine Goes.pure (.bool true) ?_ ⟨hC, Below.refl _ _, rfl⟩
        unfold Goes
        go_simp
      · have e88 : ρ (.tmp 88) = .bool true := hd (23, 88) (by simp)
        refine Goes.pure (.bool true) ?_ ⟨hC, Below.refl _ _, rfl⟩
        unfold Goes
        go_simp
      · have e7 : ρ (.tmp 7) = .pointer (some ⟨g7, 0, none⟩) := ho 7 (by simp)
        obtain ⟨c0, c1, c2⟩ := (b7.later hC).cells
        refine Goes.pure (.agg #[.bool s1, .slice no1 nn1 nc1, .slice eo1 en1 ec1]) ?_ ⟨hC, Below.refl _ _, rfl⟩
        unfold Goes
        go_simp
      · have e5 : ρ (.tmp 5) = .pointer (some ⟨g + 2, 0, none⟩) := ho 5 (by simp)
        obtain ⟨c0, c1, c2⟩ := (b5.later hC).cells
        refine Goes.pure (.agg #[.bool r, .slice po pn pc, .slice ho_ hn_ hc_]) ?_ ⟨hC, Below.refl _ _, rfl⟩
        unfold Goes
        go_simp
      · have e90 : ρ (.tmp 90) = .agg #[.bool s1, .slice no1 nn1 nc1, .slice eo1 en1 ec1] := hd (25, 90) (by simp)
        have e91 : ρ (.tmp 91) = .agg #[.bool r, .slice po pn pc, .slice ho_ hn_ hc_] := hd (26, 91) (by simp)
        have lb : Below u.heap.size u (u.alloc (.cells #[.bool s1, .slice no1 nn1 nc1, .slice eo1 en1 ec1, .bool r, .slice po pn pc, .slice ho_ hn_ hc_] 24)) := (Below.refl _ _).alloc (Nat.le_refl _) _
        refine Goes.run (.slice (some ⟨u.heap.size, 0, none⟩) 2 2) (u.alloc (.cells #[.bool s1, .slice no1 nn1 nc1, .slice eo1 en1 ec1, .bool r, .slice po pn pc, .slice ho_ hn_ hc_] 24)) (by go_simp) ⟨hC.trans (lb.mono hC.size), lb, ?_⟩
        exact VL.made [⟨s1, no1, nn1, nc1, eo1, en1, ec1⟩, ⟨r, po, pn, pc, ho_, hn_, hc_⟩] [qa + qb, qc] ⟨(cq.later hC).rd.mono (by omega), (hqc.later hC).mono (by omega), trivial⟩ _ rfl 2 rfl
      · have k92 : VL [qa + qb, qc] (2 * (K + 1) + 1 + K) (ρ (.tmp 92)) u := hd (27, 92) (by simp)
        refine Goes.call 29 #[ρ (.tmp 92)] (by go_simp) ?_
        refine Calls.mono (ratProduct_k k92 (by omega) (by simp only [List.length_cons, List.length_nil]; omega)) ?_
        rintro e u' ⟨s1, no1, nn1, nc1, eo1, en1, ec1, rfl, cq, lb⟩
        exact ⟨_, rfl, hC.trans (lb.mono hC.size), lb, ⟨s1, no1, nn1, nc1, eo1, en1, ec1, rfl, by rw [qprod2] at cq; exact cq.mono (by simp only [List.length_cons, List.length_nil]; omega)⟩⟩
      · have e3 : ρ (.tmp 3) = .pointer (some ⟨g, 0, none⟩) := ho 3 (by simp)
        obtain ⟨c0, c1, c2⟩ := (b3.later hC).cells
        refine Goes.pure (.agg #[.bool s, .slice no nn nc, .slice eo en ec]) ?_ ⟨hC, Below.refl _ _, rfl⟩
        unfold Goes
        go_simp
      · have e5 : ρ (.tmp 5) = .pointer (some ⟨g + 2, 0, none⟩) := ho 5 (by simp)
        obtain ⟨c0, c1, c2⟩ := (b5.later hC).cells
        refine Goes.pure (.agg #[.bool r, .slice po pn pc, .slice ho_ hn_ hc_]) ?_ ⟨hC, Below.refl _ _, rfl⟩
        unfold Goes
        go_simp
      · have e94 : ρ (.tmp 94) = .agg #[.bool s, .slice no nn nc, .slice eo en ec] := hd (29, 94) (by simp)
        have e95 : ρ (.tmp 95) = .agg #[.bool r, .slice po pn pc, .slice ho_ hn_ hc_] := hd (30, 95) (by simp)
        have lb : Below u.heap.size u (u.alloc (.cells #[.bool s, .slice no nn nc, .slice eo en ec, .bool r, .slice po pn pc, .slice ho_ hn_ hc_] 24)) := (Below.refl _ _).alloc (Nat.le_refl _) _
        refine Goes.run (.slice (some ⟨u.heap.size, 0, none⟩) 2 2) (u.alloc (.cells #[.bool s, .slice no nn nc, .slice eo en ec, .bool r, .slice po pn pc, .slice ho_ hn_ hc_] 24)) (by go_simp) ⟨hC.trans (lb.mono hC.size), lb, ?_⟩
        exact VL.made [⟨s, no, nn, nc, eo, en, ec⟩, ⟨r, po, pn, pc, ho_, hn_, hc_⟩] [qa, qc] ⟨(ha.later hC).mono (by omega), (hqc.later hC).mono (by omega), trivial⟩ _ rfl 2 rfl
      · have k96 : VL [qa, qc] (K) (ρ (.tmp 96)) u := hd (31, 96) (by simp)
        refine Goes.call 29 #[ρ (.tmp 96)] (by go_simp) ?_
        refine Calls.mono (ratProduct_k k96 (by omega) (by simp only [List.length_cons, List.length_nil]; omega)) ?_
        rintro e u' ⟨s1, no1, nn1, nc1, eo1, en1, ec1, rfl, cq, lb⟩
        exact ⟨_, rfl, hC.trans (lb.mono hC.size), lb, ⟨s1, no1, nn1, nc1, eo1, en1, ec1, rfl, by rw [qprod2] at cq; exact cq.mono (by simp only [List.length_cons, List.length_nil]; omega)⟩⟩
      · have e4 : ρ (.tmp 4) = .pointer (some ⟨g + 1, 0, none⟩) := ho 4 (by simp)
        obtain ⟨c0, c1, c2⟩ := (b4.later hC).cells
        refine Goes.pure (.agg #[.bool t, .slice mo mn mc, .slice fo fn fc]) ?_ ⟨hC, Below.refl _ _, rfl⟩
        unfold Goes
        go_simp
      · have e5 : ρ (.tmp 5) = .pointer (some ⟨g + 2, 0, none⟩) := ho 5 (by simp)
        obtain ⟨c0, c1, c2⟩ := (b5.later hC).cells
        refine Goes.pure (.agg #[.bool r, .slice po pn pc, .slice ho_ hn_ hc_]) ?_ ⟨hC, Below.refl _ _, rfl⟩
        unfold Goes
        go_simp
      · have e98 : ρ (.tmp 98) = .agg #[.bool t, .slice mo mn mc, .slice fo fn fc] := hd (33, 98) (by simp)
        have e99 : ρ (.tmp 99) = .agg #[.bool r, .slice po pn pc, .slice ho_ hn_ hc_] := hd (34, 99) (by simp)
        have lb : Below u.heap.size u (u.alloc (.cells #[.bool t, .slice mo mn mc, .slice fo fn fc, .bool r, .slice po pn pc, .slice ho_ hn_ hc_] 24)) := (Below.refl _ _).alloc (Nat.le_refl _) _
        refine Goes.run (.slice (some ⟨u.heap.size, 0, none⟩) 2 2) (u.alloc (.cells #[.bool t, .slice mo mn mc, .slice fo fn fc, .bool r, .slice po pn pc, .slice ho_ hn_ hc_] 24)) (by go_simp) ⟨hC.trans (lb.mono hC.size), lb, ?_⟩
        exact VL.made [⟨t, mo, mn, mc, fo, fn, fc⟩, ⟨r, po, pn, pc, ho_, hn_, hc_⟩] [qb, qc] ⟨(hb.later hC).mono (by omega), (hqc.later hC).mono (by omega), trivial⟩ _ rfl 2 rfl
      · have k100 : VL [qb, qc] (K) (ρ (.tmp 100)) u := hd (35, 100) (by simp)
        refine Goes.call 29 #[ρ (.tmp 100)] (by go_simp) ?_
        refine Calls.mono (ratProduct_k k100 (by omega) (by simp only [List.length_cons, List.length_nil]; omega)) ?_
        rintro e u' ⟨s1, no1, nn1, nc1, eo1, en1, ec1, rfl, cq, lb⟩
        exact ⟨_, rfl, hC.trans (lb.mono hC.size), lb, ⟨s1, no1, nn1, nc1, eo1, en1, ec1, rfl, by rw [qprod2] at cq; exact cq.mono (by simp only [List.length_cons, List.length_nil]; omega)⟩⟩
      · obtain ⟨s97, no97, nn97, nc97, eo97, en97, ec97, e97, k97⟩ : VC (qa * qc) (2 * (K + 1) + 1) (ρ (.tmp 97)) u := hd (32, 97) (by simp)
        obtain ⟨s101, no101, nn101, nc101, eo101, en101, ec101, e101, k101⟩ : VC (qb * qc) (2 * (K + 1) + 1) (ρ (.tmp 101)) u := hd (36, 101) (by simp)
        have lb : Below u.heap.size u (u.alloc (.cells #[.bool s97, .slice no97 nn97 nc97, .slice eo97 en97 ec97, .bool s101, .slice no101 nn101 nc101, .slice eo101 en101 ec101] 24)) := (Below.refl _ _).alloc (Nat.le_refl _) _
        refine Goes.run (.slice (some ⟨u.heap.size, 0, none⟩) 2 2) (u.alloc (.cells #[.bool s97, .slice no97 nn97 nc97, .slice eo97 en97 ec97, .bool s101, .slice no101 nn101 nc101, .slice eo101 en101 ec101] 24)) (by go_simp) ⟨hC.trans (lb.mono hC.size), lb, ?_⟩
        exact VL.made [⟨s97, no97, nn97, nc97, eo97, en97, ec97⟩, ⟨s101, no101, nn101, nc101, eo101, en101, ec101⟩] [qa * qc, qb * qc] ⟨k97.rd.mono (by omega), k101.rd.mono (by omega), trivial⟩ _ rfl 2 rfl
      · have k102 : VL [qa * qc, qb * qc] (2 * (K + 1) + 1) (ρ (.tmp 102)) u := hd (37, 102) (by simp)
        refine Goes.call 25 #[ρ (.tmp 102)] (by go_simp) ?_
        refine Calls.mono (ratSum_k k102 (by omega) (by simp only [List.length_cons, List.length_nil]; omega)) ?_
        rintro e u' ⟨s1, no1, nn1, nc1, eo1, en1, ec1, rfl, cq, lb⟩
        exact ⟨_, rfl, hC.trans (lb.mono hC.size), lb, ⟨s1, no1, nn1, nc1, eo1, en1, ec1, rfl, by rw [qsum2] at cq; exact cq.mono (by simp only [List.length_cons, List.length_nil]; omega)⟩⟩
      · obtain ⟨s93, no93, nn93, nc93, eo93, en93, ec93, e93, k93⟩ : VC ((qa + qb) * qc) (2 * (2 * (K + 1) + 1 + K + 1) + 1) (ρ (.tmp 93)) u := hd (28, 93) (by simp)
        obtain ⟨s103, no103, nn103, nc103, eo103, en103, ec103, e103, k103⟩ : VC ((qa * qc) + (qb * qc)) (2 * (2 * (K + 1) + 1 + 1) + 1) (ρ (.tmp 103)) u := hd (38, 103) (by simp)
        refine Goes.call 10 #[.agg #[.bool s93, .slice no93 nn93 nc93, .slice eo93 en93 ec93], .agg #[.bool s103, .slice no103 nn103 nc103, .slice eo103 en103 ec103]] (by go_simp) ?_
        refine Calls.mono (is3_any u s93 no93 nn93 nc93 eo93 en93 ec93 s103 no103 nn103 nc103 eo103 en103 ec103 _ _ _ _ k93.num k93.den k103.num k103.den (by have := k93.ln; omega) (by have := k93.ld; omega) (by have := k103.ln; omega) (by have := k103.ld; omega)) ?_
        rintro e u' ⟨r, rfl, HR, lb⟩
        exact ⟨_, rfl, hC.trans (lb.mono hC.size), lb, by rw [HR.out.2 (cq_same k93 k103 (by grind))]; rfl⟩
      · have e89 : ρ (.tmp 89) = .bool true := hd (24, 89) (by simp)
        have e104 : ρ (.tmp 104) = .bool true := hd (39, 104) (by simp)
        refine Goes.pure (.bool true) ?_ ⟨hC, Below.refl _ _, rfl⟩
        unfold Goes
        go_simp
    · intro vsB w5 lb hv
      have eR : vsB 40 = .bool true := hv 40 (by omega)
      clear hv
      replace ha := ha.later lb
      replace hb := hb.later lb
      replace hqc := hqc.later lb
      replace cq := cq.later lb
      replace b3 := b3.later lb
      replace b4 := b4.later lb
      replace b5 := b5.later lb
      replace b7 := b7.later lb
      have B5 := B4.trans (lb.mono B4.size)
      clear B4 lb
      simp only [puts, List.take, List.drop, Act.put, List.setIfInBounds_toArray, List.set_cons_succ, List.set_cons_zero, Nat.reduceAdd, eR]
      clear eR
      go_wp2
      have HLst : Lst [VV (.agg #[.bool s, .slice no nn nc, .slice eo en ec]), VV (.agg #[.bool t, .slice mo mn mc, .slice fo fn fc]), VL [qa, qb] (K), VC (qa * qb) (2 * (K + 1) + 1), VV (.agg #[.bool t, .slice mo mn mc, .slice fo fn fc]), VD ((qa * qb) / (qb)) (2 * (K + 1) + 1 + (K)) (ok), VD ((qa * qb) / (qb)) (2 * (K + 1) + 1 + (K)) (ok), VC ((qa * qb) / (qb)) (2 * (K + 1) + 1 + (K)), VV (.bool ok), VA w5.heap.size, VS ((qa * qb) / (qb)) (2 * (K + 1) + 1 + (K)) w5.heap.size] := ⟨VV.lasts _, VV.lasts _, VL.lasts _ _, VC.lasts _ _, VV.lasts _, VD.lasts _ _ _, VD.lasts _ _ _, VC.lasts _ _, VV.lasts _, VA.lasts _, VS.lasts _ _ _, trivial⟩
      have HLsS : LstS 10 0 [VV (.agg #[.bool s, .slice no nn nc, .slice eo en ec]), VV (.agg #[.bool t, .slice mo mn mc, .slice fo fn fc]), VL [qa, qb] (K), VC (qa * qb) (2 * (K + 1) + 1), VV (.agg #[.bool t, .slice mo mn mc, .slice fo fn fc]), VD ((qa * qb) / (qb)) (2 * (K + 1) + 1 + (K)) (ok), VD ((qa * qb) / (qb)) (2 * (K + 1) + 1 + (K)) (ok), VC ((qa * qb) / (qb)) (2 * (K + 1) + 1 + (K)), VV (.bool ok), VA w5.heap.size, VS ((qa * qb) / (qb)) (2 * (K + 1) + 1 + (K)) w5.heap.size] := ⟨fun _ => VV.lastsS _, fun _ => VV.lastsS _, fun _ => VL.lastsS _ _ (by simp), fun _ => VC.lastsS _ _, fun _ => VV.lastsS _, fun _ => VD.lastsS _ _ _, fun _ => VD.lastsS _ _ _, fun _ => VC.lastsS _ _, fun _ => VV.lastsS _, fun _ => VA.lastsS _, fun h => absurd rfl h, trivial⟩
      refine wp_region_stores 11 139 [([], [3]), ([], [4]), ([(0, 107), (1, 108)], []), ([(2, 109)], []), ([], [4]), ([(3, 110), (4, 111)], []), ([(5, 112)], []), ([(6, 106)], []), ([(6, 106)], []), ([], []), ([(9, 10), (7, 113)], [])]
        (fun u => Below w5.heap.size w5 u) (Grs w5.heap.size 10)
        (Sp [VV (.agg #[.bool s, .slice no nn nc, .slice eo en ec]), VV (.agg #[.bool t, .slice mo mn mc, .slice fo fn fc]), VL [qa, qb] (K), VC (qa * qb) (2 * (K + 1) + 1), VV (.agg #[.bool t, .slice mo mn mc, .slice fo fn fc]), VD ((qa * qb) / (qb)) (2 * (K + 1) + 1 + (K)) (ok), VD ((qa * qb) / (qb)) (2 * (K + 1) + 1 + (K)) (ok), VC ((qa * qb) / (qb)) (2 * (K + 1) + 1 + (K)), VV (.bool ok), VA w5.heap.size, VS ((qa * qb) / (qb)) (2 * (K + 1) + 1 + (K)) w5.heap.size])
        (by kernel_rfl) rfl (by kernel_rfl) (Below.refl _ _).drew (fun i k v u u' hki _ hg hs => Sp.lastsS HLst HLsS i k v u u' hki hg hs) ?_ ?_
      · clear HLst HLsS
        refine ⟨.inl ⟨by simp, fun ρ u hC hc hf hd ho => ?_⟩, .inl ⟨by simp, fun ρ u hC hc hf hd ho => ?_⟩, .inl ⟨by simp, fun ρ u hC hc hf hd ho => ?_⟩, .inl ⟨by simp, fun ρ u hC hc hf hd ho => ?_⟩, .inl ⟨by simp, fun ρ u hC hc hf hd ho => ?_⟩, .inl ⟨by simp, fun ρ u hC hc hf hd ho => ?_⟩, .inl ⟨by simp, fun ρ u hC hc hf hd ho => ?_⟩, .inl ⟨by simp, fun ρ u hC hc hf hd ho => ?_⟩, .inl ⟨by simp, fun ρ u hC hc hf hd ho => ?_⟩, .inl ⟨by simp, fun ρ u hC hc hf hd ho => ?_⟩, .inl ⟨by simp, fun ρ u hC hc hf hd ho => ?_⟩, trivial⟩
        · have e3 : ρ (.tmp 3) = .pointer (some ⟨g, 0, none⟩) := ho 3 (by simp)
          obtain ⟨c0, c1, c2⟩ := (b3.later hC).cells
          refine Goes.pure (.agg #[.bool s, .slice no nn nc, .slice eo en ec]) ?_ ⟨hC, Below.refl _ _, rfl⟩
          unfold Goes
          go_simp
        · have e4 : ρ (.tmp 4) = .pointer (some ⟨g + 1, 0, none⟩) := ho 4 (by simp)
          obtain ⟨c0, c1, c2⟩ := (b4.later hC).cells
          refine Goes.pure (.agg #[.bool t, .slice mo mn mc, .slice fo fn fc]) ?_ ⟨hC, Below.refl _ _, rfl⟩
          unfold Goes
          go_simp
        · have e107 : ρ (.tmp 107) = .agg #[.bool s, .slice no nn nc, .slice eo en ec] := hd (0, 107) (by simp)
          have e108 : ρ (.tmp 108) = .agg #[.bool t, .slice mo mn mc, .slice fo fn fc] := hd (1, 108) (by simp)
          have lb : Below u.heap.size u (u.alloc (.cells #[.bool s, .slice no nn nc, .slice eo en ec, .bool t, .slice mo mn mc, .slice fo fn fc] 24)) := (Below.refl _ _).alloc (Nat.le_refl _) _
          refine Goes.run (.slice (some ⟨u.heap.size, 0, none⟩) 2 2) (u.alloc (.cells #[.bool s, .slice no nn nc, .slice eo en ec, .bool t, .slice mo mn mc, .slice fo fn fc] 24)) (by go_simp) ⟨hC.trans (lb.mono hC.size), lb, ?_⟩
          exact VL.made [⟨s, no, nn, nc, eo, en, ec⟩, ⟨t, mo, mn, mc, fo, fn, fc⟩] [qa, qb] ⟨(ha.later hC).mono (by omega), (hb.later hC).mono (by omega), trivial⟩ _ rfl 2 rfl
        · have k109 : VL [qa, qb] (K) (ρ (.tmp 109)) u := hd (2, 109) (by simp)
          refine Goes.call 29 #[ρ (.tmp 109)] (by go_simp) ?_
          refine Calls.mono (ratProduct_k k109 (by omega) (by simp only [List.length_cons, List.length_nil]; omega)) ?_
          rintro e u' ⟨s1, no1, nn1, nc1, eo1, en1, ec1, rfl, cq, lb⟩
          exact ⟨_, rfl, hC.trans (lb.mono hC.size), lb, ⟨s1, no1, nn1, nc1, eo1, en1, ec1, rfl, by rw [qprod2] at cq; exact cq.mono (by simp only [List.length_cons, List.length_nil]; omega)⟩⟩
        · have e4 : ρ (.tmp 4) = .pointer (some ⟨g + 1, 0, none⟩) := ho 4 (by simp)
          obtain ⟨c0, c1, c2⟩ := (b4.later hC).cells
          refine Goes.pure (.agg #[.bool t, .slice mo mn mc, .slice fo fn fc]) ?_ ⟨hC, Below.refl _ _, rfl⟩
          unfold Goes
          go_simp
        · obtain ⟨s110, no110, nn110, nc110, eo110, en110, ec110, e110, k110⟩ : VC (qa * qb) (2 * (K + 1) + 1) (ρ (.tmp 110)) u := hd (3, 110) (by simp)
          have e111 : ρ (.tmp 111) = .agg #[.bool t, .slice mo mn mc, .slice fo fn fc] := hd (4, 111) (by simp)
          refine Goes.call 23 #[.agg #[.bool s110, .slice no110 nn110 nc110, .slice eo110 en110 ec110], .agg #[.bool t, .slice mo mn mc, .slice fo fn fc]] (by go_simp) ?_
          refine Calls.mono (ratDiv_k k110.rd (hb.later hC) (by omega) (by omega) (by omega)) ?_
          rintro e u' ⟨s1, no1, nn1, nc1, eo1, en1, ec1, rfl, cq, lb⟩
          exact ⟨_, rfl, hC.trans (lb.mono hC.size), lb, ⟨s1, no1, nn1, nc1, eo1, en1, ec1, by first | (rw [hok]; done) | (rw [hok]; rfl), cq⟩⟩
        · obtain ⟨s112, no112, nn112, nc112, eo112, en112, ec112, e112, k112⟩ : VD ((qa * qb) / (qb)) (2 * (K + 1) + 1 + (K)) (ok) (ρ (.tmp 112)) u := hd (5, 112) (by simp)
          refine Goes.pure (.tuple #[.agg #[.bool s112, .slice no112 nn112 nc112, .slice eo112 en112 ec112], .bool ok]) ?_ ⟨hC, Below.refl _ _, ⟨s112, no112, nn112, nc112, eo112, en112, ec112, rfl, k112⟩⟩
          unfold Goes
          go_simp
        · obtain ⟨s106, no106, nn106, nc106, eo106, en106, ec106, e106, k106⟩ : VD ((qa * qb) / (qb)) (2 * (K + 1) + 1 + (K)) (ok) (ρ (.tmp 106)) u := hd (6, 106) (by simp)
          refine Goes.pure (.agg #[.bool s106, .slice no106 nn106 nc106, .slice eo106 en106 ec106]) ?_ ⟨hC, Below.refl _ _, ⟨s106, no106, nn106, nc106, eo106, en106, ec106, rfl, k106⟩⟩
          unfold Goes
          go_simp
        · obtain ⟨s106, no106, nn106, nc106, eo106, en106, ec106, e106, k106⟩ : VD ((qa * qb) / (qb)) (2 * (K + 1) + 1 + (K)) (ok) (ρ (.tmp 106)) u := hd (6, 106) (by simp)
          refine Goes.pure (.bool ok) ?_ ⟨hC, Below.refl _ _, rfl⟩
          unfold Goes
          go_simp
        · have lb : Below u.heap.size u (u.alloc (.cells #[.bool false, .slice none 0 0, .slice none 0 0] 24)) := (Below.refl _ _).alloc (Nat.le_refl _) _
          refine Goes.run (.pointer (some ⟨u.heap.size, 0, none⟩)) (u.alloc (.cells #[.bool false, .slice none 0 0, .slice none 0 0] 24)) (by go_simp) ⟨hC.trans (lb.mono hC.size), lb, ⟨_, rfl, hC.size, ⟨_, _, _, _, _, _, _, ⟨heap_alloc_new _ _⟩⟩⟩⟩
        · obtain ⟨g10, e10, h10, sA, noA, nnA, ncA, eoA, enA, ecA, b10⟩ : VA w5.heap.size (ρ (.tmp 10)) u := hd (9, 10) (by simp)
          obtain ⟨s113, no113, nn113, nc113, eo113, en113, ec113, e113, k113⟩ : VC ((qa * qb) / (qb)) (2 * (K + 1) + 1 + (K)) (ρ (.tmp 113)) u := hd (7, 113) (by simp)
          obtain ⟨r0, r1, r2⟩ := b10.cells
          have f0 := b10.free 0
          have f1 := b10.free 1
          have f2 := b10.free 2
          have fr := Rb.putFr g10 u (.bool s113) (.slice no113 nn113 nc113) (.slice eo113 en113 ec113)
          have bb := b10.put (.bool s113) (.slice no113 nn113 nc113) (.slice eo113 en113 ec113)
          unfold Goes
          go_simp
          exact ⟨hC.trans (fr.below h10), ⟨g10, h10, ⟨_, _, _, _, _, _, _, b10⟩, fr, ⟨_, _, _, _, _, _, _, bb⟩⟩, ⟨g10, e10, h10, _, _, _, _, _, _, _, bb, k113.store b10 fr⟩⟩
      · intro vsC w6 lb hv hwd
        obtain ⟨gD, e10, hgD, sD, noD, nnD, ncD, eoD, enD, ecD, bD, cqD⟩ : VS ((qa * qb) / (qb)) (2 * (K + 1) + 1 + (K)) w5.heap.size (vsC 10) w6 := hv 10 (by omega)
        rw [hwd 10 9 (by omega) rfl] at e10
        have e114 : vsC 8 = .bool ok := hv 8 (by omega)
        clear hv hwd hgD
        replace ha := ha.later lb
        replace hb := hb.later lb
        replace hqc := hqc.later lb
        replace cq := cq.later lb
        replace b3 := b3.later lb
        replace b4 := b4.later lb
        replace b5 := b5.later lb
        replace b7 := b7.later lb
        have B6 := B5.trans (lb.mono B5.size)
        clear B5 lb
        simp only [puts, List.take, List.drop, Act.put, List.setIfInBounds_toArray, List.set_cons_succ, List.set_cons_zero, Nat.reduceAdd, e114, e10]
        clear e114 e10
        go_wp2
        by_cases HB : qb = 0
        · obtain rfl : ok = false := by rw [← hok]; simp [HB]
          have HZ : (qsgn (qb) != 0) = false := by rw [qsgn_zero.2 HB]; rfl
          clear hok HB
          have HLst : Lst [VV (.bool true), VV (.bool true), VV (.bool true), VV (.bool true), VV (.bool true), VV (.bool true), VV (.bool true), VV (.bool true), VV (.bool false), VV (.agg #[.bool t, .slice mo mn mc, .slice fo fn fc]), VV (.int .i64 (qsgn (qb))), VV (.bool false), VV (.bool true), VV (.bool true), VV (.bool true), VV (.bool false), VV (.bool true), VV (.bool true), VV (undef), VV (undef), VV (undef), VV (undef), VV (.bool true), VV (.bool true)] := ⟨VV.lasts _, VV.lasts _, VV.lasts _, VV.lasts _, VV.lasts _, VV.lasts _, VV.lasts _, VV.lasts _, VV.lasts _, VV.lasts _, VV.lasts _, VV.lasts _, VV.lasts _, VV.lasts _, VV.lasts _, VV.lasts _, VV.lasts _, VV.lasts _, VV.lasts _, VV.lasts _, VV.lasts _, VV.lasts _, VV.lasts _, VV.lasts _, trivial⟩
          refine wp_region_kahn 24 139 [([], []), ([(0, 115)], []), ([], [8]), ([(1, 116), (2, 117)], []), ([(3, 118)], []), ([], [9]), ([(4, 119), (5, 120)], []), ([(6, 121)], []), ([], [11]), ([], [4]), ([(9, 124)], []), ([(10, 125)], []), ([(8, 123), (11, 126)], []), ([(7, 122), (12, 127)], []), ([(13, 128)], []), ([], [11]), ([(15, 130)], []), ([(16, 131)], []), ([], [10]), ([], [3]), ([(19, 134)], []), ([(18, 133), (20, 135)], []), ([(17, 132), (21, 136)], []), ([(14, 129), (22, 137)], [])]
            (fun u => Below w6.heap.size w6 u) (fun u u' => Below u.heap.size u u')
            (Sp [VV (.bool true), VV (.bool true), VV (.bool true), VV (.bool true), VV (.bool true), VV (.bool true), VV (.bool true), VV (.bool true), VV (.bool false), VV (.agg #[.bool t, .slice mo mn mc, .slice fo fn fc]), VV (.int .i64 (qsgn (qb))), VV (.bool false), VV (.bool true), VV (.bool true), VV (.bool true), VV (.bool false), VV (.bool true), VV (.bool true), VV (undef), VV (undef), VV (undef), VV (undef), VV (.bool true), VV (.bool true)])
            (by kernel_rfl) rfl (by kernel_rfl) (Below.refl _ _).drew (fun k v u u' _ hg hs => Sp.lasts HLst k v u u' hg hs) ?_ ?_
          · clear HLst
            refine ⟨.inl ⟨by simp, fun ρ u hC hc hf hd ho => ?_⟩, .inl ⟨by simp, fun ρ u hC hc hf hd ho => ?_⟩, .inl ⟨guard_of rfl fun _ _ h => h, fun ρ u hC hc hf hd ho => ?_⟩, .inl ⟨by simp, fun ρ u hC hc hf hd ho => ?_⟩, .inl ⟨by simp, fun ρ u hC hc hf hd ho => ?_⟩, .inl ⟨guard_of rfl fun _ _ h => h, fun ρ u hC hc hf hd ho => ?_⟩, .inl ⟨by simp, fun ρ u hC hc hf hd ho => ?_⟩, .inl ⟨by simp, fun ρ u hC hc hf hd ho => ?_⟩, .inl ⟨guard_of rfl fun _ _ h => h, fun ρ u hC hc hf hd ho => ?_⟩, .inl ⟨guard_of rfl fun _ _ h => h, fun ρ u hC hc hf hd ho => ?_⟩, .inl ⟨guard_of rfl fun _ _ h => h, fun ρ u hC hc hf hd ho => ?_⟩, .inl ⟨guard_of rfl fun _ _ h => h, fun ρ u hC hc hf hd ho => ?_⟩, .inl ⟨guard_of rfl fun _ _ h => h, fun ρ u hC hc hf hd ho => ?_⟩, .inl ⟨by simp, fun ρ u hC hc hf hd ho => ?_⟩, .inl ⟨by simp, fun ρ u hC hc hf hd ho => ?_⟩, .inl ⟨guard_of rfl fun _ _ h => h, fun ρ u hC hc hf hd ho => ?_⟩, .inl ⟨guard_of rfl fun _ _ h => h, fun ρ u hC hc hf hd ho => ?_⟩, .inl ⟨guard_of rfl fun _ _ h => h, fun ρ u hC hc hf hd ho => ?_⟩, .inr ⟨17, false, rfl, fun v u h => by have h' : v = .bool true := h; rw [h']; simp, fun _ _ => rfl⟩, .inr ⟨17, false, rfl, fun v u h => by have h' : v = .bool true := h; rw [h']; simp, fun _ _ => rfl⟩, .inr ⟨17, false, rfl, fun v u h => by have h' : v = .bool true := h; rw [h']; simp, fun _ _ => rfl⟩, .inr ⟨17, false, rfl, fun v u h => by have h' : v = .bool true := h; rw [h']; simp, fun _ _ => rfl⟩, .inl ⟨guard_of rfl fun _ _ h => h, fun ρ u hC hc hf hd ho => ?_⟩, .inl ⟨by simp, fun ρ u hC hc hf hd ho => ?_⟩, trivial⟩
            · refine Goes.call 9 #[] (by go_simp) ?_
              refine Calls.mono (fixed3_any u) ?_
              rintro e u' ⟨rfl, lb⟩
              exact ⟨_, rfl, hC.trans (lb.mono hC.size), lb, rfl⟩
            · have e115 : ρ (.tmp 115) = .bool true := hd (0, 115) (by simp)
              refine Goes.pure (.bool true) ?_ ⟨hC, Below.refl _ _, rfl⟩
              unfold Goes
              go_simp
            · have e8 : ρ (.tmp 8) = .bool true := ho 8 (by simp)
              refine Goes.pure (.bool true) ?_ ⟨hC, Below.refl _ _, rfl⟩
              unfold Goes
              go_simp
            · have e116 : ρ (.tmp 116) = .bool true := hd (1, 116) (by simp)
              have e117 : ρ (.tmp 117) = .bool true := hd (2, 117) (by simp)
              refine Goes.pure (.bool true) ?_ ⟨hC, Below.refl _ _, rfl⟩
              unfold Goes
              go_simp
            · have e118 : ρ (.tmp 118) = .bool true := hd (3, 118) (by simp)
              refine Goes.pure (.bool true) ?_ ⟨hC, Below.refl _ _, rfl⟩
              unfold Goes
              go_simp
            · have e9 : ρ (.tmp 9) = .bool true := ho 9 (by simp)
              refine Goes.pure (.bool true) ?_ ⟨hC, Below.refl _ _, rfl⟩
              unfold Goes
              go_simp
            · have e119 : ρ (.tmp 119) = .bool true := hd (4, 119) (by simp)
              have e120 : ρ (.tmp 120) = .bool true := hd (5, 120) (by simp)
              refine Goes.pure (.bool true) ?_ ⟨hC, Below.refl _ _, rfl⟩
              unfold Goes
              go_simp
            · have e121 : ρ (.tmp 121) = .bool true := hd (6, 121) (by simp)
              refine Goes.pure (.bool true) ?_ ⟨hC, Below.refl _ _, rfl⟩
              unfold Goes
              go_simp
            · have e11 : ρ (.tmp 11) = .bool false := ho 11 (by simp)
              refine Goes.pure (.bool false) ?_ ⟨hC, Below.refl _ _, rfl⟩
              unfold Goes
              go_simp
            · have e4 : ρ (.tmp 4) = .pointer (some ⟨g + 1, 0, none⟩) := ho 4 (by simp)
              obtain ⟨c0, c1, c2⟩ := (b4.later hC).cells
              refine Goes.pure (.agg #[.bool t, .slice mo mn mc, .slice fo fn fc]) ?_ ⟨hC, Below.refl _ _, rfl⟩
              unfold Goes
              go_simp
            · have e124 : ρ (.tmp 124) = .agg #[.bool t, .slice mo mn mc, .slice fo fn fc] := hd (9, 124) (by simp)
              refine Goes.call 15 #[.agg #[.bool t, .slice mo mn mc, .slice fo fn fc]] (by go_simp) ?_
              refine Calls.mono (ratSign_k (hb.later hC) (by omega)) ?_
              rintro e u' ⟨rfl, lb⟩
              exact ⟨_, rfl, hC.trans (lb.mono hC.size), lb, rfl⟩
            · have e125 : ρ (.tmp 125) = .int .i64 (qsgn (qb)) := hd (10, 125) (by simp)
              have hb1 : (qsgn (qb) != 0) = false := HZ
              refine Goes.pure (.bool false) ?_ ⟨hC, Below.refl _ _, rfl⟩
              unfold Goes
              go_simp
            · have e123 : ρ (.tmp 123) = .bool false := hd (8, 123) (by simp)
              have e126 : ρ (.tmp 126) = .bool false := hd (11, 126) (by simp)
              refine Goes.pure (.bool true) ?_ ⟨hC, Below.refl _ _, rfl⟩
              unfold Goes
              go_simp
            · have e122 : ρ (.tmp 122) = .bool true := hd (7, 122) (by simp)
              have e127 : ρ (.tmp 127) = .bool true := hd (12, 127) (by simp)
              refine Goes.pure (.bool true) ?_ ⟨hC, Below.refl _ _, rfl⟩
              unfold Goes
              go_simp
            · have e128 : ρ (.tmp 128) = .bool true := hd (13, 128) (by simp)
              refine Goes.pure (.bool true) ?_ ⟨hC, Below.refl _ _, rfl⟩
              unfold Goes
              go_simp
            · have e11 : ρ (.tmp 11) = .bool false := ho 11 (by simp)
              refine Goes.pure (.bool false) ?_ ⟨hC, Below.refl _ _, rfl⟩
              unfold Goes
              go_simp
            · have e130 : ρ (.tmp 130) = .bool false := hd (15, 130) (by simp)
              refine Goes.pure (.bool true) ?_ ⟨hC, Below.refl _ _, rfl⟩
              unfold Goes
              go_simp
            · have e131 : ρ (.tmp 131) = .bool true := hd (16, 131) (by simp)
              refine Goes.pure (.bool true) ?_ ⟨hC, Below.refl _ _, rfl⟩
              unfold Goes
              go_simp
            · have e132 : ρ (.tmp 132) = .bool true := hd (17, 132) (by simp)
              have e136 : ρ (.tmp 136) = undef := hd (21, 136) (by simp)
              refine Goes.pure (.bool true) ?_ ⟨hC, Below.refl _ _, rfl⟩
              unfold Goes
              go_simp
            · have e129 : ρ (.tmp 129) = .bool true := hd (14, 129) (by simp)
              have e137 : ρ (.tmp 137) = .bool true := hd (22, 137) (by simp)
              refine Goes.pure (.bool true) ?_ ⟨hC, Below.refl _ _, rfl⟩
              unfold Goes
              go_simp
          · intro vs u hC hv
            have eR : vs 23 = .bool true := hv 23 (by omega)
            clear hv
            simp only [puts, List.take, List.drop, Act.put, List.setIfInBounds_toArray, List.set_cons_succ, List.set_cons_zero, Nat.reduceAdd, eR]
            go_wp2
            go_ret
            exact ⟨rfl, B6.trans (hC.mono B6.size)⟩
        · obtain rfl : ok = true := by rw [← hok]; simp [HB]
          have HZ : (qsgn (qb) != 0) = true := by rw [bne_iff_ne]; exact fun e => HB (qsgn_zero.1 e)
          clear hok
          have HLst : Lst [VV (.bool true), VV (.bool true), VV (.bool true), VV (.bool true), VV (.bool true), VV (.bool true), VV (.bool true), VV (.bool true), VV (.bool true), VV (.agg #[.bool t, .slice mo mn mc, .slice fo fn fc]), VV (.int .i64 (qsgn (qb))), VV (.bool true), VV (.bool true), VV (.bool true), VV (.bool true), VV (.bool true), VV (.bool false), VV (.bool false), VV (.agg #[.bool sD, .slice noD nnD ncD, .slice eoD enD ecD]), VV (.agg #[.bool s, .slice no nn nc, .slice eo en ec]), VC (qa) (K), VV (.bool true), VV (.bool true), VV (.bool true)] := ⟨VV.lasts _, VV.lasts _, VV.lasts _, VV.lasts _, VV.lasts _, VV.lasts _, VV.lasts _, VV.lasts _, VV.lasts _, VV.lasts _, VV.lasts _, VV.lasts _, VV.lasts _, VV.lasts _, VV.lasts _, VV.lasts _, VV.lasts _, VV.lasts _, VV.lasts _, VV.lasts _, VC.lasts _ _, VV.lasts _, VV.lasts _, VV.lasts _, trivial⟩
          refine wp_region_kahn 24 139 [([], []), ([(0, 115)], []), ([], [8]), ([(1, 116), (2, 117)], []), ([(3, 118)], []), ([], [9]), ([(4, 119), (5, 120)], []), ([(6, 121)], []), ([], [11]), ([], [4]), ([(9, 124)], []), ([(10, 125)], []), ([(8, 123), (11, 126)], []), ([(7, 122), (12, 127)], []), ([(13, 128)], []), ([], [11]), ([(15, 130)], []), ([(16, 131)], []), ([], [10]), ([], [3]), ([(19, 134)], []), ([(18, 133), (20, 135)], []), ([(17, 132), (21, 136)], []), ([(14, 129), (22, 137)], [])]
            (fun u => Below w6.heap.size w6 u) (fun u u' => Below u.heap.size u u')
            (Sp [VV (.bool true), VV (.bool true), VV (.bool true), VV (.bool true), VV (.bool true), VV (.bool true), VV (.bool true), VV (.bool true), VV (.bool true), VV (.agg #[.bool t, .slice mo mn mc, .slice fo fn fc]), VV (.int .i64 (qsgn (qb))), VV (.bool true), VV (.bool true), VV (.bool true), VV (.bool true), VV (.bool true), VV (.bool false), VV (.bool false), VV (.agg #[.bool sD, .slice noD nnD ncD, .slice eoD enD ecD]), VV (.agg #[.bool s, .slice no nn nc, .slice eo en ec]), VC (qa) (K), VV (.bool true), VV (.bool true), VV (.bool true)])
            (by kernel_rfl) rfl (by kernel_rfl) (Below.refl _ _).drew (fun k v u u' _ hg hs => Sp.lasts HLst k v u u' hg hs) ?_ ?_
          · clear HLst
            refine ⟨.inl ⟨by simp, fun ρ u hC hc hf hd ho => ?_⟩, .inl ⟨by simp, fun ρ u hC hc hf hd ho => ?_⟩, .inl ⟨guard_of rfl fun _ _ h => h, fun ρ u hC hc hf hd ho => ?_⟩, .inl ⟨by simp, fun ρ u hC hc hf hd ho => ?_⟩, .inl ⟨by simp, fun ρ u hC hc hf hd ho => ?_⟩, .inl ⟨guard_of rfl fun _ _ h => h, fun ρ u hC hc hf hd ho => ?_⟩, .inl ⟨by simp, fun ρ u hC hc hf hd ho => ?_⟩, .inl ⟨by simp, fun ρ u hC hc hf hd ho => ?_⟩, .inl ⟨guard_of rfl fun _ _ h => h, fun ρ u hC hc hf hd ho => ?_⟩, .inl ⟨guard_of rfl fun _ _ h => h, fun ρ u hC hc hf hd ho => ?_⟩, .inl ⟨guard_of rfl fun _ _ h => h, fun ρ u hC hc hf hd ho => ?_⟩, .inl ⟨guard_of rfl fun _ _ h => h, fun ρ u hC hc hf hd ho => ?_⟩, .inl ⟨guard_of rfl fun _ _ h => h, fun ρ u hC hc hf hd ho => ?_⟩, .inl ⟨by simp, fun ρ u hC hc hf hd ho => ?_⟩, .inl ⟨by simp, fun ρ u hC hc hf hd ho => ?_⟩, .inl ⟨guard_of rfl fun _ _ h => h, fun ρ u hC hc hf hd ho => ?_⟩, .inl ⟨guard_of rfl fun _ _ h => h, fun ρ u hC hc hf hd ho => ?_⟩, .inl ⟨guard_of rfl fun _ _ h => h, fun ρ u hC hc hf hd ho => ?_⟩, .inl ⟨guard_of rfl fun _ _ h => h, fun ρ u hC hc hf hd ho => ?_⟩, .inl ⟨guard_of rfl fun _ _ h => h, fun ρ u hC hc hf hd ho => ?_⟩, .inl ⟨guard_of rfl fun _ _ h => h, fun ρ u hC hc hf hd ho => ?_⟩, .inl ⟨guard_of rfl fun _ _ h => h, fun ρ u hC hc hf hd ho => ?_⟩, .inl ⟨guard_of rfl fun _ _ h => h, fun ρ u hC hc hf hd ho => ?_⟩, .inl ⟨by simp, fun ρ u hC hc hf hd ho => ?_⟩, trivial⟩
            · refine Goes.call 9 #[] (by go_simp) ?_
              refine Calls.mono (fixed3_any u) ?_
              rintro e u' ⟨rfl, lb⟩
              exact ⟨_, rfl, hC.trans (lb.mono hC.size), lb, rfl⟩
            · have e115 : ρ (.tmp 115) = .bool true := hd (0, 115) (by simp)
              refine Goes.pure (.bool true) ?_ ⟨hC, Below.refl _ _, rfl⟩
              unfold Goes
              go_simp
            · have e8 : ρ (.tmp 8) = .bool true := ho 8 (by simp)
              refine Goes.pure (.bool true) ?_ ⟨hC, Below.refl _ _, rfl⟩
              unfold Goes
              go_simp
            · have e116 : ρ (.tmp 116) = .bool true := hd (1, 116) (by simp)
              have e117 : ρ (.tmp 117) = .bool true := hd (2, 117) (by simp)
              refine Goes.pure (.bool true) ?_ ⟨hC, Below.refl _ _, rfl⟩
              unfold Goes
              go_simp
            · have e118 : ρ (.tmp 118) = .bool true := hd (3, 118) (by simp)
              refine Goes.pure (.bool true) ?_ ⟨hC, Below.refl _ _, rfl⟩
              unfold Goes
              go_simp
            · have e9 : ρ (.tmp 9) = .bool true := ho 9 (by simp)
              refine Goes.pure (.bool true) ?_ ⟨hC, Below.refl _ _, rfl⟩
              unfold Goes
              go_simp
            · have e119 : ρ (.tmp 119) = .bool true := hd (4, 119) (by simp)
              have e120 : ρ (.tmp 120) = .bool true := hd (5, 120) (by simp)
              refine Goes.pure (.bool true) ?_ ⟨hC, Below.refl _ _, rfl⟩
              unfold Goes
              go_simp
            · have e121 : ρ (.tmp 121) = .bool true := hd (6, 121) (by simp)
              refine Goes.pure (.bool true) ?_ ⟨hC, Below.refl _ _, rfl⟩
              unfold Goes
              go_simp
            · have e11 : ρ (.tmp 11) = .bool true := ho 11 (by simp)
              refine Goes.pure (.bool true) ?_ ⟨hC, Below.refl _ _, rfl⟩
              unfold Goes
              go_simp
            · have e4 : ρ (.tmp 4) = .pointer (some ⟨g + 1, 0, none⟩) := ho 4 (by simp)
              obtain ⟨c0, c1, c2⟩ := (b4.later hC).cells
              refine Goes.pure (.agg #[.bool t, .slice mo mn mc, .slice fo fn fc]) ?_ ⟨hC, Below.refl _ _, rfl⟩
              unfold Goes
              go_simp
            · have e124 : ρ (.tmp 124) = .agg #[.bool t, .slice mo mn mc, .slice fo fn fc] := hd (9, 124) (by simp)
              refine Goes.call 15 #[.agg #[.bool t, .slice mo mn mc, .slice fo fn fc]] (by go_simp) ?_
              refine Calls.mono (ratSign_k (hb.later hC) (by omega)) ?_
              rintro e u' ⟨rfl, lb⟩
              exact ⟨_, rfl, hC.trans (lb.mono hC.size), lb, rfl⟩
            · have e125 : ρ (.tmp 125) = .int .i64 (qsgn (qb)) := hd (10, 125) (by simp)
              have hb1 : (qsgn (qb) != 0) = true := HZ
              refine Goes.pure (.bool true) ?_ ⟨hC, Below.refl _ _, rfl⟩
              unfold Goes
              go_simp
            · have e123 : ρ (.tmp 123) = .bool true := hd (8, 123) (by simp)
              have e126 : ρ (.tmp 126) = .bool true := hd (11, 126) (by simp)
              refine Goes.pure (.bool true) ?_ ⟨hC, Below.refl _ _, rfl⟩
              unfold Goes
              go_simp
            · have e122 : ρ (.tmp 122) = .bool true := hd (7, 122) (by simp)
              have e127 : ρ (.tmp 127) = .bool true := hd (12, 127) (by simp)
              refine Goes.pure (.bool true) ?_ ⟨hC, Below.refl _ _, rfl⟩
              unfold Goes
              go_simp
            · have e128 : ρ (.tmp 128) = .bool true := hd (13, 128) (by simp)
              refine Goes.pure (.bool true) ?_ ⟨hC, Below.refl _ _, rfl⟩
              unfold Goes
              go_simp
            · have e11 : ρ (.tmp 11) = .bool true := ho 11 (by simp)
              refine Goes.pure (.bool true) ?_ ⟨hC, Below.refl _ _, rfl⟩
              unfold Goes
              go_simp
            · have e130 : ρ (.tmp 130) = .bool true := hd (15, 130) (by simp)
              refine Goes.pure (.bool false) ?_ ⟨hC, Below.refl _ _, rfl⟩
              unfold Goes
              go_simp
            · have e131 : ρ (.tmp 131) = .bool false := hd (16, 131) (by simp)
              refine Goes.pure (.bool false) ?_ ⟨hC, Below.refl _ _, rfl⟩
              unfold Goes
              go_simp
            · have e10 : ρ (.tmp 10) = .pointer (some ⟨gD, 0, none⟩) := ho 10 (by simp)
              obtain ⟨c0, c1, c2⟩ := (bD.later hC).cells
              refine Goes.pure (.agg #[.bool sD, .slice noD nnD ncD, .slice eoD enD ecD]) ?_ ⟨hC, Below.refl _ _, rfl⟩
              unfold Goes
              go_simp
            · have e3 : ρ (.tmp 3) = .pointer (some ⟨g, 0, none⟩) := ho 3 (by simp)
              obtain ⟨c0, c1, c2⟩ := (b3.later hC).cells
              refine Goes.pure (.agg #[.bool s, .slice no nn nc, .slice eo en ec]) ?_ ⟨hC, Below.refl _ _, rfl⟩
              unfold Goes
              go_simp
            · have e134 : ρ (.tmp 134) = .agg #[.bool s, .slice no nn nc, .slice eo en ec] := hd (19, 134) (by simp)
              refine Goes.call 11 #[.agg #[.bool s, .slice no nn nc, .slice eo en ec]] (by go_simp) ?_
              refine Calls.mono (ratRead_k (ha.later hC) (by omega) (by omega)) ?_
              rintro e u' ⟨s1, no1, nn1, nc1, eo1, en1, ec1, rfl, cq, lb⟩
              exact ⟨_, rfl, hC.trans (lb.mono hC.size), lb, ⟨s1, no1, nn1, nc1, eo1, en1, ec1, rfl, cq⟩⟩
            · have e133 : ρ (.tmp 133) = .agg #[.bool sD, .slice noD nnD ncD, .slice eoD enD ecD] := hd (18, 133) (by simp)
              obtain ⟨s135, no135, nn135, nc135, eo135, en135, ec135, e135, k135⟩ : VC (qa) (K) (ρ (.tmp 135)) u := hd (20, 135) (by simp)
              refine Goes.call 10 #[.agg #[.bool sD, .slice noD nnD ncD, .slice eoD enD ecD], .agg #[.bool s135, .slice no135 nn135 nc135, .slice eo135 en135 ec135]] (by go_simp) ?_
              refine Calls.mono (is3_any u sD noD nnD ncD eoD enD ecD s135 no135 nn135 nc135 eo135 en135 ec135 _ _ _ _ (cqD.later hC).num (cqD.later hC).den k135.num k135.den (by have := (cqD.later hC).ln; omega) (by have := (cqD.later hC).ld; omega) (by have := k135.ln; omega) (by have := k135.ld; omega)) ?_
              rintro e u' ⟨r, rfl, HR, lb⟩
              exact ⟨_, rfl, hC.trans (lb.mono hC.size), lb, by rw [HR.out.2 (cq_same (cqD.later hC) k135 (by have := HB; grind))]; rfl⟩
            · have e132 : ρ (.tmp 132) = .bool false := hd (17, 132) (by simp)
              have e136 : ρ (.tmp 136) = .bool true := hd (21, 136) (by simp)
              refine Goes.pure (.bool true) ?_ ⟨hC, Below.refl _ _, rfl⟩
              unfold Goes
              go_simp
            · have e129 : ρ (.tmp 129) = .bool true := hd (14, 129) (by simp)
              have e137 : ρ (.tmp 137) = .bool true := hd (22, 137) (by simp)
              refine Goes.pure (.bool true) ?_ ⟨hC, Below.refl _ _, rfl⟩
              unfold Goes
              go_simp
          · intro vs u hC hv
            have eR : vs 23 = .bool true := hv 23 (by omega)
            clear hv
            simp only [puts, List.take, List.drop, Act.put, List.setIfInBounds_toArray, List.set_cons_succ, List.set_cons_zero, Nat.reduceAdd, eR]
            go_wp2
            go_ret
            exact ⟨rfl, B6.trans (hC.mono B6.size)⟩
end Go.Proofs.Ytagjjhaokhobhaa
