/- penumbralaw03.RatReads: true. -/
import Derived.Test.YtagjjhaokhobhaaBT8
namespace Go.Proofs.Ytagjjhaokhobhaa
open Go.RowKit M Kahn

theorem bool_same {r t : Bool} {A : Prop} (h : r = true ↔ A) (k : t = true ↔ A) : r = t := by
  cases r <;> cases t <;> simp_all

set_option maxRecDepth 100000 in
set_option maxHeartbeats 8000000 in
theorem reads_any (w : World) (s : Bool) (no : Option Addr) (nn nc : Nat) (eo : Option Addr) (en ec : Nat) (n d : Int) (K : Nat) (qa : Rat) (ha0 : Qn w s no nn nc eo en ec qa K) (n1 : -9223372036854775808 ≤ n) (n2 : n ≤ 9223372036854775807) (d1 : -9223372036854775808 ≤ d) (d2 : d ≤ 9223372036854775807) (hK1 : 1 ≤ K) (hK : K ≤ 1048576) :
    Calls Try.prog 3 #[.agg #[.bool s, .slice no nn nc, .slice eo en ec], .int .i64 n, .int .i64 d] w fun e w' => e = .returned (.bool true) ∧ Below w.heap.size w w' := by
  obtain ⟨w0, hw0, bx, b0⟩ := box0 w (.bool s) (.slice no nn nc) (.slice eo en ec)
  have ha := ha0.later b0
  clear ha0
  obtain ⟨xs, ys, hn, hd', hq⟩ := ha.there
  have l1 := ha.ln
  have l2 := ha.ld
  obtain ⟨g, hg⟩ : ∃ g, g = w.heap.size := ⟨_, rfl⟩
  rw [← hg] at bx
  go_enter Try.func3, Try.ntmps3
  go_wp2
  rw [← hw0, ← hg]
  clear hw0 hg
  have HLst : Lst [VV (.bool true), VV (.bool true), VV (.agg #[.bool s, .slice no nn nc, .slice eo en ec]), VC (qa) (K), VV (.agg #[.bool s, .slice no nn nc, .slice eo en ec]), VC (qa) (K), VV (.bool true), VV (.bool true), VV (.bool true), VV (.agg #[.bool s, .slice no nn nc, .slice eo en ec]), VB (decide (qa.num < 0) = s ∧ toL qa.num.natAbs = xs ∧ toL qa.den = ys), VV (.agg #[.bool s, .slice no nn nc, .slice eo en ec]), VB (decide (qa.num < 0) = s ∧ toL qa.num.natAbs = xs ∧ toL qa.den = ys), VV (.bool true), VV (.bool true), VV (.bool true), VV (.agg #[.bool s, .slice no nn nc, .slice eo en ec]), VV (.int .i64 (qsgn (qa))), VV (.agg #[.bool s, .slice no nn nc, .slice eo en ec]), VV (.int .i64 (qsgn (qa))), VV (.bool true), VV (.bool true), VV (.bool true), VV (.agg #[.bool s, .slice no nn nc, .slice eo en ec]), VC (qabs (qa)) (K), VV (.agg #[.bool s, .slice no nn nc, .slice eo en ec]), VC (qabs (qa)) (K), VV (.bool true), VV (.bool true), VV (.bool true), VV (.agg #[.bool s, .slice no nn nc, .slice eo en ec]), VC (-(qa)) (K), VV (.agg #[.bool s, .slice no nn nc, .slice eo en ec]), VC (-(qa)) (K), VV (.bool true), VV (.bool true), VV (.bool true), VV (.int .i64 n), VV (.int .i64 d), VC ((((n : Int) : Rat) / ((d : Int) : Rat))) (2), VV (.int .i64 n), VV (.int .i64 d), VC ((((n : Int) : Rat) / ((d : Int) : Rat))) (2), VV (.bool true), VV (.bool true)] := ⟨VV.lasts _, VV.lasts _, VV.lasts _, VC.lasts _ _, VV.lasts _, VC.lasts _ _, VV.lasts _, VV.lasts _, VV.lasts _, VV.lasts _, VB.lasts _, VV.lasts _, VB.lasts _, VV.lasts _, VV.lasts _, VV.lasts _, VV.lasts _, VV.lasts _, VV.lasts _, VV.lasts _, VV.lasts _, VV.lasts _, VV.lasts _, VV.lasts _, VC.lasts _ _, VV.lasts _, VC.lasts _ _, VV.lasts _, VV.lasts _, VV.lasts _, VV.lasts _, VC.lasts _ _, VV.lasts _, VC.lasts _ _, VV.lasts _, VV.lasts _, VV.lasts _, VV.lasts _, VV.lasts _, VC.lasts _ _, VV.lasts _, VV.lasts _, VC.lasts _ _, VV.lasts _, VV.lasts _, trivial⟩
  refine wp_region_kahn 45 52 [([], []), ([(0, 7)], []), ([], [3]), ([(2, 9)], []), ([], [3]), ([(4, 11)], []), ([(3, 10), (5, 12)], []), ([(1, 8), (6, 13)], []), ([(7, 14)], []), ([], [3]), ([(9, 16)], []), ([], [3]), ([(11, 18)], []), ([(10, 17), (12, 19)], []), ([(8, 15), (13, 20)], []), ([(14, 21)], []), ([], [3]), ([(16, 23)], []), ([], [3]), ([(18, 25)], []), ([(17, 24), (19, 26)], []), ([(15, 22), (20, 27)], []), ([(21, 28)], []), ([], [3]), ([(23, 30)], []), ([], [3]), ([(25, 32)], []), ([(24, 31), (26, 33)], []), ([(22, 29), (27, 34)], []), ([(28, 35)], []), ([], [3]), ([(30, 37)], []), ([], [3]), ([(32, 39)], []), ([(31, 38), (33, 40)], []), ([(29, 36), (34, 41)], []), ([(35, 42)], []), ([], [1]), ([], [2]), ([(37, 44), (38, 45)], []), ([], [1]), ([], [2]), ([(40, 47), (41, 48)], []), ([(39, 46), (42, 49)], []), ([(36, 43), (43, 50)], [])]
    (fun u => Below w0.heap.size w0 u) (fun u u' => Below u.heap.size u u')
    (Sp [VV (.bool true), VV (.bool true), VV (.agg #[.bool s, .slice no nn nc, .slice eo en ec]), VC (qa) (K), VV (.agg #[.bool s, .slice no nn nc, .slice eo en ec]), VC (qa) (K), VV (.bool true), VV (.bool true), VV (.bool true), VV (.agg #[.bool s, .slice no nn nc, .slice eo en ec]), VB (decide (qa.num < 0) = s ∧ toL qa.num.natAbs = xs ∧ toL qa.den = ys), VV (.agg #[.bool s, .slice no nn nc, .slice eo en ec]), VB (decide (qa.num < 0) = s ∧ toL qa.num.natAbs = xs ∧ toL qa.den = ys), VV (.bool true), VV (.bool true), VV (.bool true), VV (.agg #[.bool s, .slice no nn nc, .slice eo en ec]), VV (.int .i64 (qsgn (qa))), VV (.agg #[.bool s, .slice no nn nc, .slice eo en ec]), VV (.int .i64 (qsgn (qa))), VV (.bool true), VV (.bool true), VV (.bool true), VV (.agg #[.bool s, .slice no nn nc, .slice eo en ec]), VC (qabs (qa)) (K), VV (.agg #[.bool s, .slice no nn nc, .slice eo en ec]), VC (qabs (qa)) (K), VV (.bool true), VV (.bool true), VV (.bool true), VV (.agg #[.bool s, .slice no nn nc, .slice eo en ec]), VC (-(qa)) (K), VV (.agg #[.bool s, .slice no nn nc, .slice eo en ec]), VC (-(qa)) (K), VV (.bool true), VV (.bool true), VV (.bool true), VV (.int .i64 n), VV (.int .i64 d), VC ((((n : Int) : Rat) / ((d : Int) : Rat))) (2), VV (.int .i64 n), VV (.int .i64 d), VC ((((n : Int) : Rat) / ((d : Int) : Rat))) (2), VV (.bool true), VV (.bool true)])
    (by kernel_rfl) rfl (by kernel_rfl) (Below.refl _ _).drew (fun k v u u' _ hg hs => Sp.lasts HLst k v u u' hg hs) ?_ ?_
  · clear HLst
    refine ⟨.inl ⟨by simp, fun ρ u hC hc hf hd ho => ?_⟩, .inl ⟨by simp, fun ρ u hC hc hf hd ho => ?_⟩, .inl ⟨guard_of rfl fun _ _ h => h, fun ρ u hC hc hf hd ho => ?_⟩, .inl ⟨guard_of rfl fun _ _ h => h, fun ρ u hC hc hf hd ho => ?_⟩, .inl ⟨guard_of rfl fun _ _ h => h, fun ρ u hC hc hf hd ho => ?_⟩, .inl ⟨guard_of rfl fun _ _ h => h, fun ρ u hC hc hf hd ho => ?_⟩, .inl ⟨guard_of rfl fun _ _ h => h, fun ρ u hC hc hf hd ho => ?_⟩, .inl ⟨by simp, fun ρ u hC hc hf hd ho => ?_⟩, .inl ⟨by simp, fun ρ u hC hc hf hd ho => ?_⟩, .inl ⟨guard_of rfl fun _ _ h => h, fun ρ u hC hc hf hd ho => ?_⟩, .inl ⟨guard_of rfl fun _ _ h => h, fun ρ u hC hc hf hd ho => ?_⟩, .inl ⟨guard_of rfl fun _ _ h => h, fun ρ u hC hc hf hd ho => ?_⟩, .inl ⟨guard_of rfl fun _ _ h => h, fun ρ u hC hc hf hd ho => ?_⟩, .inl ⟨guard_of rfl fun _ _ h => h, fun ρ u hC hc hf hd ho => ?_⟩, .inl ⟨by simp, fun ρ u hC hc hf hd ho => ?_⟩, .inl ⟨by simp, fun ρ u hC hc hf hd ho => ?_⟩, .inl ⟨guard_of rfl fun _ _ h => h, fun ρ u hC hc hf hd ho => ?_⟩, .inl ⟨guard_of rfl fun _ _ h => h, fun ρ u hC hc hf hd ho => ?_⟩, .inl ⟨guard_of rfl fun _ _ h => h, fun ρ u hC hc hf hd ho => ?_⟩, .inl ⟨guard_of rfl fun _ _ h => h, fun ρ u hC hc hf hd ho => ?_⟩, .inl ⟨guard_of rfl fun _ _ h => h, fun ρ u hC hc hf hd ho => ?_⟩, .inl ⟨by simp, fun ρ u hC hc hf hd ho => ?_⟩, .inl ⟨by simp, fun ρ u hC hc hf hd ho => ?_⟩, .inl ⟨guard_of rfl fun _ _ h => h, fun ρ u hC hc hf hd ho => ?_⟩, .inl ⟨guard_of rfl fun _ _ h => h, fun ρ u hC hc hf hd ho => ?_⟩, .inl ⟨guard_of rfl fun _ _ h => h, fun ρ u hC hc hf hd ho => ?_⟩, .inl ⟨guard_of rfl fun _ _ h => h, fun ρ u hC hc hf hd ho => ?_⟩, .inl ⟨guard_of rfl fun _ _ h => h, fun ρ u hC hc hf hd ho => ?_⟩, .inl ⟨by simp, fun ρ u hC hc hf hd ho => ?_⟩, .inl ⟨by simp, fun ρ u hC hc hf hd ho => ?_⟩, .inl ⟨guard_of rfl fun _ _ h => h, fun ρ u hC hc hf hd ho => ?_⟩, .inl ⟨guard_of rfl fun _ _ h => h, fun ρ u hC hc hf hd ho => ?_⟩, .inl ⟨guard_of rfl fun _ _ h => h, fun ρ u hC hc hf hd ho => ?_⟩, .inl ⟨guard_of rfl fun _ _ h => h, fun ρ u hC hc hf hd ho => ?_⟩, .inl ⟨guard_of rfl fun _ _ h => h, fun ρ u hC hc hf hd ho => ?_⟩, .inl ⟨by simp, fun ρ u hC hc hf hd ho => ?_⟩, .inl ⟨by simp, fun ρ u hC hc hf hd ho => ?_⟩, .inl ⟨guard_of rfl fun _ _ h => h, fun ρ u hC hc hf hd ho => ?_⟩, .inl ⟨guard_of rfl fun _ _ h => h, fun ρ u hC hc hf hd ho => ?_⟩, .inl ⟨guard_of rfl fun _ _ h => h, fun ρ u hC hc hf hd ho => ?_⟩, .inl ⟨guard_of rfl fun _ _ h => h, fun ρ u hC hc hf hd ho => ?_⟩, .inl ⟨guard_of rfl fun _ _ h => h, fun ρ u hC hc hf hd ho => ?_⟩, .inl ⟨guard_of rfl fun _ _ h => h, fun ρ u hC hc hf hd ho => ?_⟩, .inl ⟨guard_of rfl fun _ _ h => h, fun ρ u hC hc hf hd ho => ?_⟩, .inl ⟨by simp, fun ρ u hC hc hf hd ho => ?_⟩, trivial⟩
    · refine Goes.call 9 #[] (by go_simp) ?_
      refine Calls.mono (fixed3_any u) ?_
      rintro e u' ⟨rfl, lb⟩
      exact ⟨_, rfl, hC.trans (lb.mono hC.size), lb, rfl⟩
    · have e7 : ρ (.tmp 7) = .bool true := hd (0, 7) (by simp)
      refine Goes.pure (.bool true) ?_ ⟨hC, Below.refl _ _, rfl⟩
      unfold Goes
      go_simp
    · have e3 : ρ (.tmp 3) = .pointer (some ⟨g, 0, none⟩) := ho 3 (by simp)
      obtain ⟨c0, c1, c2⟩ := (bx.later hC).cells
      refine Goes.pure (.agg #[.bool s, .slice no nn nc, .slice eo en ec]) ?_ ⟨hC, Below.refl _ _, rfl⟩
      unfold Goes
      go_simp
    · have e9 : ρ (.tmp 9) = .agg #[.bool s, .slice no nn nc, .slice eo en ec] := hd (2, 9) (by simp)
      refine Goes.call 11 #[.agg #[.bool s, .slice no nn nc, .slice eo en ec]] (by go_simp) ?_
      refine Calls.mono (ratRead_k (ha.later hC) (by omega) (by omega)) ?_
      rintro e u' ⟨s1, no1, nn1, nc1, eo1, en1, ec1, rfl, cq, lb⟩
      exact ⟨_, rfl, hC.trans (lb.mono hC.size), lb, ⟨s1, no1, nn1, nc1, eo1, en1, ec1, rfl, cq⟩⟩
    · have e3 : ρ (.tmp 3) = .pointer (some ⟨g, 0, none⟩) := ho 3 (by simp)
      obtain ⟨c0, c1, c2⟩ := (bx.later hC).cells
      refine Goes.pure (.agg #[.bool s, .slice no nn nc, .slice eo en ec]) ?_ ⟨hC, Below.refl _ _, rfl⟩
      unfold Goes
      go_simp
    · have e11 : ρ (.tmp 11) = .agg #[.bool s, .slice no nn nc, .slice eo en ec] := hd (4, 11) (by simp)
      refine Goes.call 12 #[.agg #[.bool s, .slice no nn nc, .slice eo en ec]] (by go_simp) ?_
      refine Calls.mono (read3_any u s no nn nc eo en ec (K) (qa) (ha.later hC) (by omega) (by omega)) ?_
      rintro e u' ⟨s1, no1, nn1, nc1, eo1, en1, ec1, rfl, cq, lb⟩
      exact ⟨_, rfl, hC.trans (lb.mono hC.size), lb, ⟨s1, no1, nn1, nc1, eo1, en1, ec1, rfl, cq⟩⟩
    · obtain ⟨s10, no10, nn10, nc10, eo10, en10, ec10, e10, k10⟩ : VC (qa) (K) (ρ (.tmp 10)) u := hd (3, 10) (by simp)
      obtain ⟨s12, no12, nn12, nc12, eo12, en12, ec12, e12, k12⟩ : VC (qa) (K) (ρ (.tmp 12)) u := hd (5, 12) (by simp)
      refine Goes.call 10 #[.agg #[.bool s10, .slice no10 nn10 nc10, .slice eo10 en10 ec10], .agg #[.bool s12, .slice no12 nn12 nc12, .slice eo12 en12 ec12]] (by go_simp) ?_
      refine Calls.mono (is3_any u s10 no10 nn10 nc10 eo10 en10 ec10 s12 no12 nn12 nc12 eo12 en12 ec12 _ _ _ _ k10.num k10.den k12.num k12.den (by have := k10.ln; omega) (by have := k10.ld; omega) (by have := k12.ln; omega) (by have := k12.ld; omega)) ?_
      rintro e u' ⟨r, rfl, HR, lb⟩
      exact ⟨_, rfl, hC.trans (lb.mono hC.size), lb, by rw [HR.out.2 (cq_same k10 k12 (rfl))]; rfl⟩
    · have e8 : ρ (.tmp 8) = .bool true := hd (1, 8) (by simp)
      have e13 : ρ (.tmp 13) = .bool true := hd (6, 13) (by simp)
      refine Goes.pure (.bool true) ?_ ⟨hC, Below.refl _ _, rfl⟩
      unfold Goes
      go_simp
    · have e14 : ρ (.tmp 14) = .bool true := hd (7, 14) (by simp)
      refine Goes.pure (.bool true) ?_ ⟨hC, Below.refl _ _, rfl⟩
      unfold Goes
      go_simp
    · have e3 : ρ (.tmp 3) = .pointer (some ⟨g, 0, none⟩) := ho 3 (by simp)
      obtain ⟨c0, c1, c2⟩ := (bx.later hC).cells
      refine Goes.pure (.agg #[.bool s, .slice no nn nc, .slice eo en ec]) ?_ ⟨hC, Below.refl _ _, rfl⟩
      unfold Goes
      go_simp
    · have e16 : ρ (.tmp 16) = .agg #[.bool s, .slice no nn nc, .slice eo en ec] := hd (9, 16) (by simp)
      refine Goes.call 13 #[.agg #[.bool s, .slice no nn nc, .slice eo en ec]] (by go_simp) ?_
      refine Calls.mono (ratCheck_k (hn.later hC) (hd'.later hC) l1 l2 hq hK1 (by omega)) ?_
      rintro e u' ⟨r, rfl, HR, lb⟩
      exact ⟨_, rfl, hC.trans (lb.mono hC.size), lb, ⟨r, rfl, HR⟩⟩
    · have e3 : ρ (.tmp 3) = .pointer (some ⟨g, 0, none⟩) := ho 3 (by simp)
      obtain ⟨c0, c1, c2⟩ := (bx.later hC).cells
      refine Goes.pure (.agg #[.bool s, .slice no nn nc, .slice eo en ec]) ?_ ⟨hC, Below.refl _ _, rfl⟩
      unfold Goes
      go_simp
    · have e18 : ρ (.tmp 18) = .agg #[.bool s, .slice no nn nc, .slice eo en ec] := hd (11, 18) (by simp)
      refine Goes.call 14 #[.agg #[.bool s, .slice no nn nc, .slice eo en ec]] (by go_simp) ?_
      refine Calls.mono (check3_any u s no nn nc eo en ec K xs ys (hn.later hC) (hd'.later hC) l1 l2 qa hq hK1 (by omega)) ?_
      rintro e u' ⟨r, rfl, HR, lb⟩
      exact ⟨_, rfl, hC.trans (lb.mono hC.size), lb, ⟨r, rfl, HR⟩⟩
    · obtain ⟨r17, e17, k17⟩ : VB (decide (qa.num < 0) = s ∧ toL qa.num.natAbs = xs ∧ toL qa.den = ys) (ρ (.tmp 17)) u := hd (10, 17) (by simp)
      obtain ⟨r19, e19, k19⟩ : VB (decide (qa.num < 0) = s ∧ toL qa.num.natAbs = xs ∧ toL qa.den = ys) (ρ (.tmp 19)) u := hd (12, 19) (by simp)
      obtain rfl : r17 = r19 := bool_same k17.out k19.out
      refine Goes.pure (.bool true) ?_ ⟨hC, Below.refl _ _, rfl⟩
      unfold Goes
      go_simp
    · have e15 : ρ (.tmp 15) = .bool true := hd (8, 15) (by simp)
      have e20 : ρ (.tmp 20) = .bool true := hd (13, 20) (by simp)
      refine Goes.pure (.bool true) ?_ ⟨hC, Below.refl _ _, rfl⟩
      unfold Goes
      go_simp
    · have e21 : ρ (.tmp 21) = .bool true := hd (14, 21) (by simp)
      refine Goes.pure (.bool true) ?_ ⟨hC, Below.refl _ _, rfl⟩
      unfold Goes
      go_simp
    · have e3 : ρ (.tmp 3) = .pointer (some ⟨g, 0, none⟩) := ho 3 (by simp)
      obtain ⟨c0, c1, c2⟩ := (bx.later hC).cells
      refine Goes.pure (.agg #[.bool s, .slice no nn nc, .slice eo en ec]) ?_ ⟨hC, Below.refl _ _, rfl⟩
      unfold Goes
      go_simp
    · have e23 : ρ (.tmp 23) = .agg #[.bool s, .slice no nn nc, .slice eo en ec] := hd (16, 23) (by simp)
      refine Goes.call 15 #[.agg #[.bool s, .slice no nn nc, .slice eo en ec]] (by go_simp) ?_
      refine Calls.mono (ratSign_k (ha.later hC) (by omega)) ?_
      rintro e u' ⟨rfl, lb⟩
      exact ⟨_, rfl, hC.trans (lb.mono hC.size), lb, rfl⟩
    · have e3 : ρ (.tmp 3) = .pointer (some ⟨g, 0, none⟩) := ho 3 (by simp)
      obtain ⟨c0, c1, c2⟩ := (bx.later hC).cells
      refine Goes.pure (.agg #[.bool s, .slice no nn nc, .slice eo en ec]) ?_ ⟨hC, Below.refl _ _, rfl⟩
      unfold Goes
      go_simp
    · have e25 : ρ (.tmp 25) = .agg #[.bool s, .slice no nn nc, .slice eo en ec] := hd (18, 25) (by simp)
      refine Goes.call 16 #[.agg #[.bool s, .slice no nn nc, .slice eo en ec]] (by go_simp) ?_
      refine Calls.mono (sign3_any u s no nn nc eo en ec (K) (qa) (ha.later hC) (by omega)) ?_
      rintro e u' ⟨rfl, lb⟩
      exact ⟨_, rfl, hC.trans (lb.mono hC.size), lb, rfl⟩
    · have e24 : ρ (.tmp 24) = .int .i64 (qsgn (qa)) := hd (17, 24) (by simp)
      have e26 : ρ (.tmp 26) = .int .i64 (qsgn (qa)) := hd (19, 26) (by simp)
      have hb0 : (qsgn (qa) == qsgn (qa)) = true := by simp
      refine Goes.pure (.bool true) ?_ ⟨hC, Below.refl _ _, rfl⟩
      unfold Goes
      go_simp
    · have e22 : ρ (.tmp 22) = .bool true := hd (15, 22) (by simp)
      have e27 : ρ (.tmp 27) = .bool true := hd (20, 27) (by simp)
      refine Goes.pure (.bool true) ?_ ⟨hC, Below.refl _ _, rfl⟩
      unfold Goes
      go_simp
    · have e28 : ρ (.tmp 28) = .bool true := hd (21, 28) (by simp)
      refine Goes.pure (.bool true) ?_ ⟨hC, Below.refl _ _, rfl⟩
      unfold Goes
      go_simp
    · have e3 : ρ (.tmp 3) = .pointer (some ⟨g, 0, none⟩) := ho 3 (by simp)
      obtain ⟨c0, c1, c2⟩ := (bx.later hC).cells
      refine Goes.pure (.agg #[.bool s, .slice no nn nc, .slice eo en ec]) ?_ ⟨hC, Below.refl _ _, rfl⟩
      unfold Goes
      go_simp
    · have e30 : ρ (.tmp 30) = .agg #[.bool s, .slice no nn nc, .slice eo en ec] := hd (23, 30) (by simp)
      refine Goes.call 17 #[.agg #[.bool s, .slice no nn nc, .slice eo en ec]] (by go_simp) ?_
      refine Calls.mono (ratAbs_k (ha.later hC) (by omega) (by omega)) ?_
      rintro e u' ⟨s1, no1, nn1, nc1, eo1, en1, ec1, rfl, cq, lb⟩
      exact ⟨_, rfl, hC.trans (lb.mono hC.size), lb, ⟨s1, no1, nn1, nc1, eo1, en1, ec1, rfl, cq⟩⟩
    · have e3 : ρ (.tmp 3) = .pointer (some ⟨g, 0, none⟩) := ho 3 (by simp)
      obtain ⟨c0, c1, c2⟩ := (bx.later hC).cells
      refine Goes.pure (.agg #[.bool s, .slice no nn nc, .slice eo en ec]) ?_ ⟨hC, Below.refl _ _, rfl⟩
      unfold Goes
      go_simp
    · have e32 : ρ (.tmp 32) = .agg #[.bool s, .slice no nn nc, .slice eo en ec] := hd (25, 32) (by simp)
      refine Goes.call 18 #[.agg #[.bool s, .slice no nn nc, .slice eo en ec]] (by go_simp) ?_
      refine Calls.mono (abs3_any u s no nn nc eo en ec (K) (qa) (ha.later hC) (by omega) (by omega)) ?_
      rintro e u' ⟨s1, no1, nn1, nc1, eo1, en1, ec1, rfl, cq, lb⟩
      exact ⟨_, rfl, hC.trans (lb.mono hC.size), lb, ⟨s1, no1, nn1, nc1, eo1, en1, ec1, rfl, cq⟩⟩
    · obtain ⟨s31, no31, nn31, nc31, eo31, en31, ec31, e31, k31⟩ : VC (qabs (qa)) (K) (ρ (.tmp 31)) u := hd (24, 31) (by simp)
      obtain ⟨s33, no33, nn33, nc33, eo33, en33, ec33, e33, k33⟩ : VC (qabs (qa)) (K) (ρ (.tmp 33)) u := hd (26, 33) (by simp)
      refine Goes.call 10 #[.agg #[.bool s31, .slice no31 nn31 nc31, .slice eo31 en31 ec31], .agg #[.bool s33, .slice no33 nn33 nc33, .slice eo33 en33 ec33]] (by go_simp) ?_
      refine Calls.mono (is3_any u s31 no31 nn31 nc31 eo31 en31 ec31 s33 no33 nn33 nc33 eo33 en33 ec33 _ _ _ _ k31.num k31.den k33.num k33.den (by have := k31.ln; omega) (by have := k31.ld; omega) (by have := k33.ln; omega) (by have := k33.ld; omega)) ?_
      rintro e u' ⟨r, rfl, HR, lb⟩
      exact ⟨_, rfl, hC.trans (lb.mono hC.size), lb, by rw [HR.out.2 (cq_same k31 k33 (rfl))]; rfl⟩
    · have e29 : ρ (.tmp 29) = .bool true := hd (22, 29) (by simp)
      have e34 : ρ (.tmp 34) = .bool true := hd (27, 34) (by simp)
      refine Goes.pure (.bool true) ?_ ⟨hC, Below.refl _ _, rfl⟩
      unfold Goes
      go_simp
    · have e35 : ρ (.tmp 35) = .bool true := hd (28, 35) (by simp)
      refine Goes.pure (.bool true) ?_ ⟨hC, Below.refl _ _, rfl⟩
      unfold Goes
      go_simp
    · have e3 : ρ (.tmp 3) = .pointer (some ⟨g, 0, none⟩) := ho 3 (by simp)
      obtain ⟨c0, c1, c2⟩ := (bx.later hC).cells
      refine Goes.pure (.agg #[.bool s, .slice no nn nc, .slice eo en ec]) ?_ ⟨hC, Below.refl _ _, rfl⟩
      unfold Goes
      go_simp
    · have e37 : ρ (.tmp 37) = .agg #[.bool s, .slice no nn nc, .slice eo en ec] := hd (30, 37) (by simp)
      refine Goes.call 19 #[.agg #[.bool s, .slice no nn nc, .slice eo en ec]] (by go_simp) ?_
      refine Calls.mono (ratNeg_k (ha.later hC) (by omega) (by omega)) ?_
      rintro e u' ⟨s1, no1, nn1, nc1, eo1, en1, ec1, rfl, cq, lb⟩
      exact ⟨_, rfl, hC.trans (lb.mono hC.size), lb, ⟨s1, no1, nn1, nc1, eo1, en1, ec1, rfl, cq⟩⟩
    · have e3 : ρ (.tmp 3) = .pointer (some ⟨g, 0, none⟩) := ho 3 (by simp)
      obtain ⟨c0, c1, c2⟩ := (bx.later hC).cells
      refine Goes.pure (.agg #[.bool s, .slice no nn nc, .slice eo en ec]) ?_ ⟨hC, Below.refl _ _, rfl⟩
      unfold Goes
      go_simp
    · have e39 : ρ (.tmp 39) = .agg #[.bool s, .slice no nn nc, .slice eo en ec] := hd (32, 39) (by simp)
      refine Goes.call 20 #[.agg #[.bool s, .slice no nn nc, .slice eo en ec]] (by go_simp) ?_
      refine Calls.mono (neg3_any u s no nn nc eo en ec (K) (qa) (ha.later hC) (by omega) (by omega)) ?_
      rintro e u' ⟨s1, no1, nn1, nc1, eo1, en1, ec1, rfl, cq, lb⟩
      exact ⟨_, rfl, hC.trans (lb.mono hC.size), lb, ⟨s1, no1, nn1, nc1, eo1, en1, ec1, rfl, cq⟩⟩
    · obtain ⟨s38, no38, nn38, nc38, eo38, en38, ec38, e38, k38⟩ : VC (-(qa)) (K) (ρ (.tmp 38)) u := hd (31, 38) (by simp)
      obtain ⟨s40, no40, nn40, nc40, eo40, en40, ec40, e40, k40⟩ : VC (-(qa)) (K) (ρ (.tmp 40)) u := hd (33, 40) (by simp)
      refine Goes.call 10 #[.agg #[.bool s38, .slice no38 nn38 nc38, .slice eo38 en38 ec38], .agg #[.bool s40, .slice no40 nn40 nc40, .slice eo40 en40 ec40]] (by go_simp) ?_
      refine Calls.mono (is3_any u s38 no38 nn38 nc38 eo38 en38 ec38 s40 no40 nn40 nc40 eo40 en40 ec40 _ _ _ _ k38.num k38.den k40.num k40.den (by have := k38.ln; omega) (by have := k38.ld; omega) (by have := k40.ln; omega) (by have := k40.ld; omega)) ?_
      rintro e u' ⟨r, rfl, HR, lb⟩
      exact ⟨_, rfl, hC.trans (lb.mono hC.size), lb, by rw [HR.out.2 (cq_same k38 k40 (rfl))]; rfl⟩
    · have e36 : ρ (.tmp 36) = .bool true := hd (29, 36) (by simp)
      have e41 : ρ (.tmp 41) = .bool true := hd (34, 41) (by simp)
      refine Goes.pure (.bool true) ?_ ⟨hC, Below.refl _ _, rfl⟩
      unfold Goes
      go_simp
    · have e42 : ρ (.tmp 42) = .bool true := hd (35, 42) (by simp)
      refine Goes.pure (.bool true) ?_ ⟨hC, Below.refl _ _, rfl⟩
      unfold Goes
      go_simp
    · have e1 : ρ (.tmp 1) = .int .i64 n := ho 1 (by simp)
      refine Goes.pure (.int .i64 n) ?_ ⟨hC, Below.refl _ _, rfl⟩
      unfold Goes
      go_simp
    · have e2 : ρ (.tmp 2) = .int .i64 d := ho 2 (by simp)
      refine Goes.pure (.int .i64 d) ?_ ⟨hC, Below.refl _ _, rfl⟩
      unfold Goes
      go_simp
    · have e44 : ρ (.tmp 44) = .int .i64 n := hd (37, 44) (by simp)
      have e45 : ρ (.tmp 45) = .int .i64 d := hd (38, 45) (by simp)
      refine Goes.call 21 #[.int .i64 n, .int .i64 d] (by go_simp) ?_
      refine Calls.mono (ratOf_k n d (by omega) (by omega) (by omega) (by omega)) ?_
      rintro e u' ⟨s1, no1, nn1, nc1, eo1, en1, ec1, rfl, cq, lb⟩
      exact ⟨_, rfl, hC.trans (lb.mono hC.size), lb, ⟨s1, no1, nn1, nc1, eo1, en1, ec1, rfl, cq⟩⟩
    · have e1 : ρ (.tmp 1) = .int .i64 n := ho 1 (by simp)
      refine Goes.pure (.int .i64 n) ?_ ⟨hC, Below.refl _ _, rfl⟩
      unfold Goes
      go_simp
    · have e2 : ρ (.tmp 2) = .int .i64 d := ho 2 (by simp)
      refine Goes.pure (.int .i64 d) ?_ ⟨hC, Below.refl _ _, rfl⟩
      unfold Goes
      go_simp
    · have e47 : ρ (.tmp 47) = .int .i64 n := hd (40, 47) (by simp)
      have e48 : ρ (.tmp 48) = .int .i64 d := hd (41, 48) (by simp)
      refine Goes.call 22 #[.int .i64 n, .int .i64 d] (by go_simp) ?_
      refine Calls.mono (of3_any u n d (by omega) (by omega) (by omega) (by omega)) ?_
      rintro e u' ⟨s1, no1, nn1, nc1, eo1, en1, ec1, rfl, cq, lb⟩
      exact ⟨_, rfl, hC.trans (lb.mono hC.size), lb, ⟨s1, no1, nn1, nc1, eo1, en1, ec1, rfl, cq⟩⟩
    · obtain ⟨s46, no46, nn46, nc46, eo46, en46, ec46, e46, k46⟩ : VC ((((n : Int) : Rat) / ((d : Int) : Rat))) (2) (ρ (.tmp 46)) u := hd (39, 46) (by simp)
      obtain ⟨s49, no49, nn49, nc49, eo49, en49, ec49, e49, k49⟩ : VC ((((n : Int) : Rat) / ((d : Int) : Rat))) (2) (ρ (.tmp 49)) u := hd (42, 49) (by simp)
      refine Goes.call 10 #[.agg #[.bool s46, .slice no46 nn46 nc46, .slice eo46 en46 ec46], .agg #[.bool s49, .slice no49 nn49 nc49, .slice eo49 en49 ec49]] (by go_simp) ?_
      refine Calls.mono (is3_any u s46 no46 nn46 nc46 eo46 en46 ec46 s49 no49 nn49 nc49 eo49 en49 ec49 _ _ _ _ k46.num k46.den k49.num k49.den (by have := k46.ln; omega) (by have := k46.ld; omega) (by have := k49.ln; omega) (by have := k49.ld; omega)) ?_
      rintro e u' ⟨r, rfl, HR, lb⟩
      exact ⟨_, rfl, hC.trans (lb.mono hC.size), lb, by rw [HR.out.2 (cq_same k46 k49 (rfl))]; rfl⟩
    · have e43 : ρ (.tmp 43) = .bool true := hd (36, 43) (by simp)
      have e50 : ρ (.tmp 50) = .bool true := hd (43, 50) (by simp)
      refine Goes.pure (.bool true) ?_ ⟨hC, Below.refl _ _, rfl⟩
      unfold Goes
      go_simp
  · intro vs u hC hv
    have eR : vs 44 = .bool true := hv 44 (by omega)
    clear hv
    simp only [puts, List.take, List.drop, Act.put, List.setIfInBounds_toArray, List.set_cons_succ, List.set_cons_zero, Nat.reduceAdd, eR]
    go_wp2
    go_ret
    exact ⟨rfl, b0.trans (hC.mono b0.size)⟩
end Go.Proofs.Ytagjjhaokhobhaa
