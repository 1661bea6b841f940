/- penumbralaw06.FrameSlopes: true. -/
import Derived.Test.YtjjebiihoibpmaaAz
namespace Go.Proofs.Ytjjebiihoibpmaa.Sym
open Go Go.RowKit M Kahn
set_option maxRecDepth 1000000
set_option linter.unusedSimpArgs false
set_option linter.unusedVariables false

set_option maxHeartbeats 16000000 in
theorem fslopes_at (n1 n2 n3 d1 d2 d3 k : Rat) (K : Nat) (K1 : 1 ≤ K) (hK : K ≤ 1048576) : At Try.prog 6 [mkR [n1, n2, n3] K, mkR [d1, d2, d3] K, mkR [k] K] ⟨.inl ⟨some (.inl (.bool true))⟩⟩ := by
  have i0 : ((0 : Int) : Rat) / ((1 : Int) : Rat) = 0 := by decide +kernel
  have i1 : ((1 : Int) : Rat) / ((1 : Int) : Rat) = 1 := by decide +kernel
  have im : ((-1 : Int) : Rat) / ((1 : Int) : Rat) = -1 := by decide +kernel
  by_cases hD : n1 * n1 + n2 * n2 + n3 * n3 = 1
  · have o := fr_orth hD
    obtain ⟨-, -, -, y4⟩ := fr_yes hD
    rw [y4, y4, y4] at o
    have z1 : (d1 * (fr11 n1 n2 n3) + d2 * (fr12 n1 n2 n3) + n1) * (fr11 n1 n2 n3) + (d1 * (fr12 n1 n2 n3) + d2 * (fr22 n1 n2 n3) + n2) * (fr12 n1 n2 n3) + (d1 * n1 + d2 * n2 + n3) * n1 = d1 := by have := o.in1 d1 d2 1; grind
    have z2 : (d1 * (fr11 n1 n2 n3) + d2 * (fr12 n1 n2 n3) + n1) * (fr12 n1 n2 n3) + (d1 * (fr12 n1 n2 n3) + d2 * (fr22 n1 n2 n3) + n2) * (fr22 n1 n2 n3) + (d1 * n1 + d2 * n2 + n3) * n2 = d2 := by have := o.in2 d1 d2 1; grind
    have z3 : (d1 * (fr11 n1 n2 n3) + d2 * (fr12 n1 n2 n3) + n1) * n1 + (d1 * (fr12 n1 n2 n3) + d2 * (fr22 n1 n2 n3) + n2) * n2 + (d1 * n1 + d2 * n2 + n3) * n3 = 1 := by have := o.in3 d1 d2 1; grind
    have u1 := o.out1 d1 d2 d3
    have u2 := o.out2 d1 d2 d3
    have u3 := o.out3 d1 d2 d3
    have k1 : (k * d1) * (fr11 n1 n2 n3) + (k * d2) * (fr12 n1 n2 n3) + (k * d3) * n1 = k * (d1 * (fr11 n1 n2 n3) + d2 * (fr12 n1 n2 n3) + d3 * n1) := by grind
    have k2 : (k * d1) * (fr12 n1 n2 n3) + (k * d2) * (fr22 n1 n2 n3) + (k * d3) * n2 = k * (d1 * (fr12 n1 n2 n3) + d2 * (fr22 n1 n2 n3) + d3 * n2) := by grind
    have k3 : (k * d1) * n1 + (k * d2) * n2 + (k * d3) * n3 = k * (d1 * n1 + d2 * n2 + d3 * n3) := by grind
    clear o
    generalize hA : d1 * (fr11 n1 n2 n3) + d2 * (fr12 n1 n2 n3) + d3 * n1 = A at *
    generalize hB : d1 * (fr12 n1 n2 n3) + d2 * (fr22 n1 n2 n3) + d3 * n2 = B at *
    generalize hZ : d1 * n1 + d2 * n2 + d3 * n3 = Z at *
    by_cases hz : Z = 0
    · refine At.ok (fuel := 60) (hs := [true, true, true, true, true, true, false, false, false]) S6_ok Try.func6 (by kernel_rfl) ?_
      simp (maxSteps := 10000000) only [Try.f6, S6, sFixed, S5, sFSlopes, s6Slopes, sFAlong, s6Along, sFOf, s6Of, S4, sFMir, sFIn, sFOut, s6In, s6Out, s6Is, S3, s5Null, S2, sVSum, S1, sVOf, sVRead, sVSub, sVScale, sVDot, s5Of, s5Zero, s5Read, s5Add, s5Sub, s5Scale, s5Dot, s5Is, S0, hD, y4, z1, z2, z3, k1, k2, k3, hA, hB, hZ, hz, decide_eq_true_eq, decide_eq_false_iff_not, ne_eq, not_true_eq_false, not_false_eq_true, Decidable.not_not, beq_iff_eq, beq_eq_false_iff_ne, bne_eq_false_iff_eq, bne_iff_ne, qsgn_zero, eq_self, decide_true, decide_false, and_self, i0, i1, im, exF, exC, exR, run, step, wantO, want, ev, look, rdO, app, putT, TT.at, tt0, find, args, head, wantA, avOf, bxOf, nwOf, ptOf, ldOf, touch, reads, rdsOf, wfind, putW, mid, cut, lsize, Lf.size, lay, fillA, rowA, cmpI, eqB, sized, tell, tellB, tellL, chk1, chk2, noPt, noNw, allPuts, resA, resA1, oneOf, av1, mkR, cn, agR, rats, ratsL, ratsAll, rowR, sp1, sp2, spL, spOf, spIs, sp0, spN, spC, ratsC, ratsCs, rowV, rowVL, sumL, prodL, plain, undef, BV.into, BV.free, AV.free, OkRun, ALe, BLe, BsLe, LLe, LfLe, List.map, List.length_cons, List.length_nil, List.replicate, List.append_eq, List.cons_append, List.nil_append, List.append_nil, Nat.reduceAdd, Nat.reduceSub, Nat.reduceMul, Int.reduceAdd, Int.reduceSub, Int.reduceToNat, Int.toNat_zero, Int.toNat_one, Nat.beq, Nat.ble, Nat.beq_refl, List.getElem?_cons_zero, List.getElem?_cons_succ, List.getElem?_nil, List.set, List.all, Bool.and_true, Bool.true_and, Bool.and_self, Bool.not_true, Bool.not_false, List.flatten, List.foldl, List.take, List.drop, Nat.max_self, true_and, and_true, and_self, true_implies, implies_true, forall_const]
      and_intros
      all_goals first | with_reducible rfl | omega | (grind)
    · by_cases hk : k = 0
      · refine At.ok (fuel := 60) (hs := [true, true, true, true, true, true, true, true, false, false, true]) S6_ok Try.func6 (by kernel_rfl) ?_
        simp (maxSteps := 10000000) only [Try.f6, S6, sFixed, S5, sFSlopes, s6Slopes, sFAlong, s6Along, sFOf, s6Of, S4, sFMir, sFIn, sFOut, s6In, s6Out, s6Is, S3, s5Null, S2, sVSum, S1, sVOf, sVRead, sVSub, sVScale, sVDot, s5Of, s5Zero, s5Read, s5Add, s5Sub, s5Scale, s5Dot, s5Is, S0, hD, y4, z1, z2, z3, k1, k2, k3, hA, hB, hZ, hz, hk, decide_eq_true_eq, decide_eq_false_iff_not, ne_eq, not_true_eq_false, not_false_eq_true, Decidable.not_not, beq_iff_eq, beq_eq_false_iff_ne, bne_eq_false_iff_eq, bne_iff_ne, qsgn_zero, eq_self, decide_true, decide_false, and_self, i0, i1, im, exF, exC, exR, run, step, wantO, want, ev, look, rdO, app, putT, TT.at, tt0, find, args, head, wantA, avOf, bxOf, nwOf, ptOf, ldOf, touch, reads, rdsOf, wfind, putW, mid, cut, lsize, Lf.size, lay, fillA, rowA, cmpI, eqB, sized, tell, tellB, tellL, chk1, chk2, noPt, noNw, allPuts, resA, resA1, oneOf, av1, mkR, cn, agR, rats, ratsL, ratsAll, rowR, sp1, sp2, spL, spOf, spIs, sp0, spN, spC, ratsC, ratsCs, rowV, rowVL, sumL, prodL, plain, undef, BV.into, BV.free, AV.free, OkRun, ALe, BLe, BsLe, LLe, LfLe, List.map, List.length_cons, List.length_nil, List.replicate, List.append_eq, List.cons_append, List.nil_append, List.append_nil, Nat.reduceAdd, Nat.reduceSub, Nat.reduceMul, Int.reduceAdd, Int.reduceSub, Int.reduceToNat, Int.toNat_zero, Int.toNat_one, Nat.beq, Nat.ble, Nat.beq_refl, List.getElem?_cons_zero, List.getElem?_cons_succ, List.getElem?_nil, List.set, List.all, Bool.and_true, Bool.true_and, Bool.and_self, Bool.not_true, Bool.not_false, List.flatten, List.foldl, List.take, List.drop, Nat.max_self, true_and, and_true, and_self, true_implies, implies_true, forall_const]
        and_intros
        all_goals first | with_reducible rfl | omega | (grind)
      · have hkz : k * Z ≠ 0 := by rw [Ne, Rat.mul_eq_zero]; exact fun h => h.elim hk hz
        refine At.ok (fuel := 60) (hs := [true, true, true, true, true, true, true, true, true, true, true, true, true]) S6_ok Try.func6 (by kernel_rfl) ?_
        simp (maxSteps := 10000000) only [Try.f6, S6, sFixed, S5, sFSlopes, s6Slopes, sFAlong, s6Along, sFOf, s6Of, S4, sFMir, sFIn, sFOut, s6In, s6Out, s6Is, S3, s5Null, S2, sVSum, S1, sVOf, sVRead, sVSub, sVScale, sVDot, s5Of, s5Zero, s5Read, s5Add, s5Sub, s5Scale, s5Dot, s5Is, S0, hD, y4, z1, z2, z3, k1, k2, k3, hA, hB, hZ, hz, hk, hkz, decide_eq_true_eq, decide_eq_false_iff_not, ne_eq, not_true_eq_false, not_false_eq_true, Decidable.not_not, beq_iff_eq, beq_eq_false_iff_ne, bne_eq_false_iff_eq, bne_iff_ne, qsgn_zero, eq_self, decide_true, decide_false, and_self, i0, i1, im, exF, exC, exR, run, step, wantO, want, ev, look, rdO, app, putT, TT.at, tt0, find, args, head, wantA, avOf, bxOf, nwOf, ptOf, ldOf, touch, reads, rdsOf, wfind, putW, mid, cut, lsize, Lf.size, lay, fillA, rowA, cmpI, eqB, sized, tell, tellB, tellL, chk1, chk2, noPt, noNw, allPuts, resA, resA1, oneOf, av1, mkR, cn, agR, rats, ratsL, ratsAll, rowR, sp1, sp2, spL, spOf, spIs, sp0, spN, spC, ratsC, ratsCs, rowV, rowVL, sumL, prodL, plain, undef, BV.into, BV.free, AV.free, OkRun, ALe, BLe, BsLe, LLe, LfLe, List.map, List.length_cons, List.length_nil, List.replicate, List.append_eq, List.cons_append, List.nil_append, List.append_nil, Nat.reduceAdd, Nat.reduceSub, Nat.reduceMul, Int.reduceAdd, Int.reduceSub, Int.reduceToNat, Int.toNat_zero, Int.toNat_one, Nat.beq, Nat.ble, Nat.beq_refl, List.getElem?_cons_zero, List.getElem?_cons_succ, List.getElem?_nil, List.set, List.all, Bool.and_true, Bool.true_and, Bool.and_self, Bool.not_true, Bool.not_false, List.flatten, List.foldl, List.take, List.drop, Nat.max_self, true_and, and_true, and_self, true_implies, implies_true, forall_const]
        and_intros
        all_goals first | with_reducible rfl | omega | (grind)
  · refine At.ok (fuel := 60) (hs := [false, true, true]) S6_ok Try.func6 (by kernel_rfl) ?_
    simp (maxSteps := 10000000) only [Try.f6, S6, sFixed, S5, sFSlopes, s6Slopes, sFAlong, s6Along, sFOf, s6Of, S4, sFMir, sFIn, sFOut, s6In, s6Out, s6Is, S3, s5Null, S2, sVSum, S1, sVOf, sVRead, sVSub, sVScale, sVDot, s5Of, s5Zero, s5Read, s5Add, s5Sub, s5Scale, s5Dot, s5Is, S0, hD, decide_eq_true_eq, decide_eq_false_iff_not, ne_eq, not_true_eq_false, not_false_eq_true, Decidable.not_not, beq_iff_eq, beq_eq_false_iff_ne, bne_eq_false_iff_eq, bne_iff_ne, qsgn_zero, eq_self, decide_true, decide_false, and_self, i0, i1, im, exF, exC, exR, run, step, wantO, want, ev, look, rdO, app, putT, TT.at, tt0, find, args, head, wantA, avOf, bxOf, nwOf, ptOf, ldOf, touch, reads, rdsOf, wfind, putW, mid, cut, lsize, Lf.size, lay, fillA, rowA, cmpI, eqB, sized, tell, tellB, tellL, chk1, chk2, noPt, noNw, allPuts, resA, resA1, oneOf, av1, mkR, cn, agR, rats, ratsL, ratsAll, rowR, sp1, sp2, spL, spOf, spIs, sp0, spN, spC, ratsC, ratsCs, rowV, rowVL, sumL, prodL, plain, undef, BV.into, BV.free, AV.free, OkRun, ALe, BLe, BsLe, LLe, LfLe, List.map, List.length_cons, List.length_nil, List.replicate, List.append_eq, List.cons_append, List.nil_append, List.append_nil, Nat.reduceAdd, Nat.reduceSub, Nat.reduceMul, Int.reduceAdd, Int.reduceSub, Int.reduceToNat, Int.toNat_zero, Int.toNat_one, Nat.beq, Nat.ble, Nat.beq_refl, List.getElem?_cons_zero, List.getElem?_cons_succ, List.getElem?_nil, List.set, List.all, Bool.and_true, Bool.true_and, Bool.and_self, Bool.not_true, Bool.not_false, List.flatten, List.foldl, List.take, List.drop, Nat.max_self, true_and, and_true, and_self, true_implies, implies_true, forall_const]
    and_intros
    all_goals first | with_reducible rfl | omega | (grind)
end Go.Proofs.Ytjjebiihoibpmaa.Sym
