/- penumbralaw06.FrameTells: true. -/
import Derived.Test.YtjjebiihoibpmaaAz
namespace Go.Proofs.Ytjjebiihoibpmaa.Sym
open Go Go.RowKit M Kahn
set_option maxRecDepth 1000000
set_option linter.unusedSimpArgs false
set_option linter.unusedVariables false

set_option maxHeartbeats 16000000 in
theorem ftells_at (e11 e12 e13 e21 e22 e23 e31 e32 e33 d1 d2 d3 : Rat) (K : Nat) (K1 : 1 ≤ K) (hK : K ≤ 1048576) : At Try.prog 4 [mkR [e11, e12, e13, e21, e22, e23, e31, e32, e33] K, mkR [d1, d2, d3] K] ⟨.inl ⟨some (.inl (.bool true))⟩⟩ := by
  have i0 : ((0 : Int) : Rat) / ((1 : Int) : Rat) = 0 := by decide +kernel
  have i1 : ((1 : Int) : Rat) / ((1 : Int) : Rat) = 1 := by decide +kernel
  have im : ((-1 : Int) : Rat) / ((1 : Int) : Rat) = -1 := by decide +kernel
  by_cases hz : d1 * e31 + d2 * e32 + d3 * e33 = 0
  · refine At.ok (fuel := 60) (hs := [false, false, true, true, true, true, true, true, true]) S6_ok Try.func4 (by kernel_rfl) ?_
    simp only [Try.f4, S6, sFixed, S5, sFSlopes, s6Slopes, sFAlong, s6Along, sFOf, s6Of, S4, sFMir, sFIn, sFOut, s6In, s6Out, s6Is, S3, s5Null, S2, sVSum, S1, sVOf, sVRead, sVSub, sVScale, sVDot, s5Of, s5Zero, s5Read, s5Add, s5Sub, s5Scale, s5Dot, s5Is, S0, hz, decide_eq_true_eq, decide_eq_false_iff_not, ne_eq, not_true_eq_false, not_false_eq_true, Decidable.not_not, beq_iff_eq, beq_eq_false_iff_ne, bne_eq_false_iff_eq, bne_iff_ne, qsgn_zero, eq_self, decide_true, decide_false, and_self, i0, i1, im, exF, exC, exR, run, step, wantO, want, ev, look, rdO, app, putT, TT.at, tt0, find, args, head, wantA, avOf, bxOf, nwOf, ptOf, ldOf, touch, reads, rdsOf, wfind, putW, mid, cut, lsize, Lf.size, lay, fillA, rowA, cmpI, eqB, sized, tell, tellB, tellL, chk1, chk2, noPt, noNw, allPuts, resA, resA1, oneOf, av1, mkR, cn, agR, rats, ratsL, ratsAll, rowR, sp1, sp2, spL, spOf, spIs, sp0, spN, spC, ratsC, ratsCs, rowV, rowVL, sumL, prodL, plain, undef, BV.into, BV.free, AV.free, OkRun, ALe, BLe, BsLe, LLe, LfLe, List.map, List.length_cons, List.length_nil, List.replicate, List.append_eq, List.cons_append, List.nil_append, List.append_nil, Nat.reduceAdd, Nat.reduceSub, Nat.reduceMul, Int.reduceAdd, Int.reduceSub, Int.reduceToNat, Int.toNat_zero, Int.toNat_one, Nat.beq, Nat.ble, Nat.beq_refl, List.getElem?_cons_zero, List.getElem?_cons_succ, List.getElem?_nil, List.set, List.all, Bool.and_true, Bool.true_and, Bool.and_self, Bool.not_true, Bool.not_false, List.flatten, List.foldl, List.take, List.drop, Nat.max_self, true_and, and_true, and_self, true_implies, implies_true, forall_const]
    and_intros
    all_goals first | with_reducible rfl | omega | (grind)
  · refine At.ok (fuel := 60) (hs := [true, true, true, true, true, true, true, true, true]) S6_ok Try.func4 (by kernel_rfl) ?_
    simp only [Try.f4, S6, sFixed, S5, sFSlopes, s6Slopes, sFAlong, s6Along, sFOf, s6Of, S4, sFMir, sFIn, sFOut, s6In, s6Out, s6Is, S3, s5Null, S2, sVSum, S1, sVOf, sVRead, sVSub, sVScale, sVDot, s5Of, s5Zero, s5Read, s5Add, s5Sub, s5Scale, s5Dot, s5Is, S0, hz, decide_eq_true_eq, decide_eq_false_iff_not, ne_eq, not_true_eq_false, not_false_eq_true, Decidable.not_not, beq_iff_eq, beq_eq_false_iff_ne, bne_eq_false_iff_eq, bne_iff_ne, qsgn_zero, eq_self, decide_true, decide_false, and_self, i0, i1, im, exF, exC, exR, run, step, wantO, want, ev, look, rdO, app, putT, TT.at, tt0, find, args, head, wantA, avOf, bxOf, nwOf, ptOf, ldOf, touch, reads, rdsOf, wfind, putW, mid, cut, lsize, Lf.size, lay, fillA, rowA, cmpI, eqB, sized, tell, tellB, tellL, chk1, chk2, noPt, noNw, allPuts, resA, resA1, oneOf, av1, mkR, cn, agR, rats, ratsL, ratsAll, rowR, sp1, sp2, spL, spOf, spIs, sp0, spN, spC, ratsC, ratsCs, rowV, rowVL, sumL, prodL, plain, undef, BV.into, BV.free, AV.free, OkRun, ALe, BLe, BsLe, LLe, LfLe, List.map, List.length_cons, List.length_nil, List.replicate, List.append_eq, List.cons_append, List.nil_append, List.append_nil, Nat.reduceAdd, Nat.reduceSub, Nat.reduceMul, Int.reduceAdd, Int.reduceSub, Int.reduceToNat, Int.toNat_zero, Int.toNat_one, Nat.beq, Nat.ble, Nat.beq_refl, List.getElem?_cons_zero, List.getElem?_cons_succ, List.getElem?_nil, List.set, List.all, Bool.and_true, Bool.true_and, Bool.and_self, Bool.not_true, Bool.not_false, List.flatten, List.foldl, List.take, List.drop, Nat.max_self, true_and, and_true, and_self, true_implies, implies_true, forall_const]
    and_intros
    all_goals first | with_reducible rfl | omega | (grind)
end Go.Proofs.Ytjjebiihoibpmaa.Sym
