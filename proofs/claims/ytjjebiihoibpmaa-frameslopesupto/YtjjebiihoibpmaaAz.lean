/- Package frame, and penumbraref06, by runs: what calls the others. -/
import Derived.Test.YtjjebiihoibpmaaAy
namespace Go.Proofs.Ytjjebiihoibpmaa.Sym
open Go Go.RowKit M Kahn
set_option maxRecDepth 1000000
set_option linter.unusedSimpArgs false
set_option linter.unusedVariables false

def sFSlopes : Spec := spN 12 fun l => match l with
  | [([e11, e12, e13, e21, e22, e23, e31, e32, e33], K), ([d1, d2, d3], L)] => some (⟨.inr [cn [(d1 * e11 + d2 * e12 + d3 * e13) / (d1 * e31 + d2 * e32 + d3 * e33)] (6 * (K + L) + 4), cn [(d1 * e21 + d2 * e22 + d3 * e23) / (d1 * e31 + d2 * e32 + d3 * e33)] (6 * (K + L) + 4), cn [d1 * e31 + d2 * e32 + d3 * e33] (3 * (K + L) + 2), ⟨some (.inl (.bool (decide ((d1 * e31 + d2 * e32 + d3 * e33) ≠ 0))))⟩]⟩, 1 ≤ K ∧ 1 ≤ L ∧ 12 * max K L + 12 ≤ 1073741824)
  | _ => none
set_option maxHeartbeats 8000000 in
theorem sFSlopes_ok : SpecOk Try.prog sFSlopes := SpecOk.mk' Try.func12 (by kernel_rfl) (by kernel_rfl) (spN_at fun l r p h hp => by
  split at h
  · rename_i e11 e12 e13 e21 e22 e23 e31 e32 e33 K d1 d2 d3 L
    cases h
    have i0 : ((0 : Int) : Rat) / ((1 : Int) : Rat) = 0 := by decide +kernel
    have i1 : ((1 : Int) : Rat) / ((1 : Int) : Rat) = 1 := by decide +kernel
    have i2 : ((2 : Int) : Rat) / ((1 : Int) : Rat) = 2 := by decide +kernel
    by_cases hz : d1 * e31 + d2 * e32 + d3 * e33 = 0
    · rw [show decide ((d1 * e31 + d2 * e32 + d3 * e33) ≠ 0) = false from by simp [hz]]
      refine At.ok (fuel := 60) (hs := [false, false]) S4_ok Try.func12 (by kernel_rfl) ?_
      simp only [Try.f12, S4, sFMir, sFIn, sFOut, s6In, s6Out, s6Is, S3, s5Null, S2, sVSum, S1, sVOf, sVRead, sVSub, sVScale, sVDot, s5Of, s5Zero, s5Read, s5Add, s5Sub, s5Scale, s5Dot, s5Is, S0, i0, i1, i2, hz, decide_eq_true_eq, decide_eq_false_iff_not, ne_eq, not_true_eq_false, not_false_eq_true, Decidable.not_not, beq_iff_eq, beq_eq_false_iff_ne, bne_eq_false_iff_eq, bne_iff_ne, qsgn_zero, exF, exC, exR, run, step, wantO, want, ev, look, rdO, app, putT, TT.at, tt0, find, args, head, wantA, avOf, bxOf, nwOf, ptOf, ldOf, touch, reads, rdsOf, wfind, putW, mid, cut, lsize, Lf.size, lay, fillA, rowA, cmpI, eqB, sized, tell, tellB, tellL, chk1, chk2, noPt, noNw, allPuts, resA, resA1, oneOf, av1, mkR, cn, agR, rats, ratsL, ratsAll, rowR, sp1, sp2, spL, spOf, spIs, sp0, spN, spC, ratsC, ratsCs, rowV, rowVL, sumL, prodL, plain, undef, BV.into, BV.free, AV.free, OkRun, ALe, BLe, BsLe, LLe, LfLe, List.map, List.length_cons, List.length_nil, List.replicate, List.append_eq, List.cons_append, List.nil_append, List.append_nil, Nat.reduceAdd, Nat.reduceSub, Nat.reduceMul, Int.reduceAdd, Int.reduceSub, Int.reduceToNat, Int.toNat_zero, Int.toNat_one, Nat.beq, Nat.ble, Nat.beq_refl, List.getElem?_cons_zero, List.getElem?_cons_succ, List.getElem?_nil, List.set, List.all, Bool.and_true, Bool.true_and, Bool.and_self, Bool.not_true, Bool.not_false, List.flatten, List.foldl, List.take, List.drop, Nat.max_self, true_and, and_true, and_self, true_implies, implies_true, forall_const]
      and_intros
      all_goals first | with_reducible rfl | omega | (first | with_reducible rfl | grind)
    · rw [show decide ((d1 * e31 + d2 * e32 + d3 * e33) ≠ 0) = true from by simp [hz]]
      refine At.ok (fuel := 60) (hs := [true, true]) S4_ok Try.func12 (by kernel_rfl) ?_
      simp only [Try.f12, S4, sFMir, sFIn, sFOut, s6In, s6Out, s6Is, S3, s5Null, S2, sVSum, S1, sVOf, sVRead, sVSub, sVScale, sVDot, s5Of, s5Zero, s5Read, s5Add, s5Sub, s5Scale, s5Dot, s5Is, S0, i0, i1, i2, hz, decide_eq_true_eq, decide_eq_false_iff_not, ne_eq, not_true_eq_false, not_false_eq_true, Decidable.not_not, beq_iff_eq, beq_eq_false_iff_ne, bne_eq_false_iff_eq, bne_iff_ne, qsgn_zero, exF, exC, exR, run, step, wantO, want, ev, look, rdO, app, putT, TT.at, tt0, find, args, head, wantA, avOf, bxOf, nwOf, ptOf, ldOf, touch, reads, rdsOf, wfind, putW, mid, cut, lsize, Lf.size, lay, fillA, rowA, cmpI, eqB, sized, tell, tellB, tellL, chk1, chk2, noPt, noNw, allPuts, resA, resA1, oneOf, av1, mkR, cn, agR, rats, ratsL, ratsAll, rowR, sp1, sp2, spL, spOf, spIs, sp0, spN, spC, ratsC, ratsCs, rowV, rowVL, sumL, prodL, plain, undef, BV.into, BV.free, AV.free, OkRun, ALe, BLe, BsLe, LLe, LfLe, List.map, List.length_cons, List.length_nil, List.replicate, List.append_eq, List.cons_append, List.nil_append, List.append_nil, Nat.reduceAdd, Nat.reduceSub, Nat.reduceMul, Int.reduceAdd, Int.reduceSub, Int.reduceToNat, Int.toNat_zero, Int.toNat_one, Nat.beq, Nat.ble, Nat.beq_refl, List.getElem?_cons_zero, List.getElem?_cons_succ, List.getElem?_nil, List.set, List.all, Bool.and_true, Bool.true_and, Bool.and_self, Bool.not_true, Bool.not_false, List.flatten, List.foldl, List.take, List.drop, Nat.max_self, true_and, and_true, and_self, true_implies, implies_true, forall_const]
      and_intros
      all_goals first | with_reducible rfl | omega | (first | with_reducible rfl | grind)
  · cases h)
def s6Slopes : Spec := spN 13 fun l => match l with
  | [([e11, e12, e13, e21, e22, e23, e31, e32, e33], K), ([d1, d2, d3], L)] => some (⟨.inr [cn [(d1 * e11 + d2 * e12 + d3 * e13) / (d1 * e31 + d2 * e32 + d3 * e33)] (6 * (K + L) + 4), cn [(d1 * e21 + d2 * e22 + d3 * e23) / (d1 * e31 + d2 * e32 + d3 * e33)] (6 * (K + L) + 4), cn [d1 * e31 + d2 * e32 + d3 * e33] (3 * (K + L) + 2), ⟨some (.inl (.bool (decide ((d1 * e31 + d2 * e32 + d3 * e33) ≠ 0))))⟩]⟩, 1 ≤ K ∧ 1 ≤ L ∧ 12 * max K L + 12 ≤ 17179869184)
  | _ => none
set_option maxHeartbeats 8000000 in
theorem s6Slopes_ok : SpecOk Try.prog s6Slopes := SpecOk.mk' Try.func13 (by kernel_rfl) (by kernel_rfl) (spN_at fun l r p h hp => by
  split at h
  · rename_i e11 e12 e13 e21 e22 e23 e31 e32 e33 K d1 d2 d3 L
    cases h
    have i0 : ((0 : Int) : Rat) / ((1 : Int) : Rat) = 0 := by decide +kernel
    have i1 : ((1 : Int) : Rat) / ((1 : Int) : Rat) = 1 := by decide +kernel
    have i2 : ((2 : Int) : Rat) / ((1 : Int) : Rat) = 2 := by decide +kernel
    by_cases hz : d1 * e31 + d2 * e32 + d3 * e33 = 0
    · rw [show decide ((d1 * e31 + d2 * e32 + d3 * e33) ≠ 0) = false from by simp [hz]]
      refine At.ok (fuel := 60) (hs := [true]) S4_ok Try.func13 (by kernel_rfl) ?_
      simp only [Try.f13, S4, sFMir, sFIn, sFOut, s6In, s6Out, s6Is, S3, s5Null, S2, sVSum, S1, sVOf, sVRead, sVSub, sVScale, sVDot, s5Of, s5Zero, s5Read, s5Add, s5Sub, s5Scale, s5Dot, s5Is, S0, i0, i1, i2, hz, decide_eq_true_eq, decide_eq_false_iff_not, ne_eq, not_true_eq_false, not_false_eq_true, Decidable.not_not, beq_iff_eq, beq_eq_false_iff_ne, bne_eq_false_iff_eq, bne_iff_ne, qsgn_zero, exF, exC, exR, run, step, wantO, want, ev, look, rdO, app, putT, TT.at, tt0, find, args, head, wantA, avOf, bxOf, nwOf, ptOf, ldOf, touch, reads, rdsOf, wfind, putW, mid, cut, lsize, Lf.size, lay, fillA, rowA, cmpI, eqB, sized, tell, tellB, tellL, chk1, chk2, noPt, noNw, allPuts, resA, resA1, oneOf, av1, mkR, cn, agR, rats, ratsL, ratsAll, rowR, sp1, sp2, spL, spOf, spIs, sp0, spN, spC, ratsC, ratsCs, rowV, rowVL, sumL, prodL, plain, undef, BV.into, BV.free, AV.free, OkRun, ALe, BLe, BsLe, LLe, LfLe, List.map, List.length_cons, List.length_nil, List.replicate, List.append_eq, List.cons_append, List.nil_append, List.append_nil, Nat.reduceAdd, Nat.reduceSub, Nat.reduceMul, Int.reduceAdd, Int.reduceSub, Int.reduceToNat, Int.toNat_zero, Int.toNat_one, Nat.beq, Nat.ble, Nat.beq_refl, List.getElem?_cons_zero, List.getElem?_cons_succ, List.getElem?_nil, List.set, List.all, Bool.and_true, Bool.true_and, Bool.and_self, Bool.not_true, Bool.not_false, List.flatten, List.foldl, List.take, List.drop, Nat.max_self, true_and, and_true, and_self, true_implies, implies_true, forall_const]
      and_intros
      all_goals first | with_reducible rfl | omega | (first | with_reducible rfl | grind)
    · rw [show decide ((d1 * e31 + d2 * e32 + d3 * e33) ≠ 0) = true from by simp [hz]]
      refine At.ok (fuel := 60) (hs := [false]) S4_ok Try.func13 (by kernel_rfl) ?_
      simp only [Try.f13, S4, sFMir, sFIn, sFOut, s6In, s6Out, s6Is, S3, s5Null, S2, sVSum, S1, sVOf, sVRead, sVSub, sVScale, sVDot, s5Of, s5Zero, s5Read, s5Add, s5Sub, s5Scale, s5Dot, s5Is, S0, i0, i1, i2, hz, decide_eq_true_eq, decide_eq_false_iff_not, ne_eq, not_true_eq_false, not_false_eq_true, Decidable.not_not, beq_iff_eq, beq_eq_false_iff_ne, bne_eq_false_iff_eq, bne_iff_ne, qsgn_zero, exF, exC, exR, run, step, wantO, want, ev, look, rdO, app, putT, TT.at, tt0, find, args, head, wantA, avOf, bxOf, nwOf, ptOf, ldOf, touch, reads, rdsOf, wfind, putW, mid, cut, lsize, Lf.size, lay, fillA, rowA, cmpI, eqB, sized, tell, tellB, tellL, chk1, chk2, noPt, noNw, allPuts, resA, resA1, oneOf, av1, mkR, cn, agR, rats, ratsL, ratsAll, rowR, sp1, sp2, spL, spOf, spIs, sp0, spN, spC, ratsC, ratsCs, rowV, rowVL, sumL, prodL, plain, undef, BV.into, BV.free, AV.free, OkRun, ALe, BLe, BsLe, LLe, LfLe, List.map, List.length_cons, List.length_nil, List.replicate, List.append_eq, List.cons_append, List.nil_append, List.append_nil, Nat.reduceAdd, Nat.reduceSub, Nat.reduceMul, Int.reduceAdd, Int.reduceSub, Int.reduceToNat, Int.toNat_zero, Int.toNat_one, Nat.beq, Nat.ble, Nat.beq_refl, List.getElem?_cons_zero, List.getElem?_cons_succ, List.getElem?_nil, List.set, List.all, Bool.and_true, Bool.true_and, Bool.and_self, Bool.not_true, Bool.not_false, List.flatten, List.foldl, List.take, List.drop, Nat.max_self, true_and, and_true, and_self, true_implies, implies_true, forall_const]
      and_intros
      all_goals first | with_reducible rfl | omega | (first | with_reducible rfl | grind)
  · cases h)
def sFAlong : Spec := spN 20 fun l => match l with
  | [([e11, e12, e13, e21, e22, e23, e31, e32, e33], K), ([u], L), ([v], M)] => some (⟨.inl (cn [u * e11 + v * e21 + e31, u * e12 + v * e22 + e32, u * e13 + v * e23 + e33] (3 * K + L + M + 2))⟩, 1 ≤ K ∧ 1 ≤ L ∧ 1 ≤ M ∧ 8 * max K (max L M) + 32 ≤ 4294967296)
  | _ => none
set_option maxHeartbeats 8000000 in
theorem sFAlong_ok : SpecOk Try.prog sFAlong := SpecOk.mk' Try.func20 (by kernel_rfl) (by kernel_rfl) (spN_at fun l r p h hp => by
  split at h
  · rename_i e11 e12 e13 e21 e22 e23 e31 e32 e33 K u L v M
    cases h
    have i0 : ((0 : Int) : Rat) / ((1 : Int) : Rat) = 0 := by decide +kernel
    have i1 : ((1 : Int) : Rat) / ((1 : Int) : Rat) = 1 := by decide +kernel
    have i2 : ((2 : Int) : Rat) / ((1 : Int) : Rat) = 2 := by decide +kernel
    refine At.okT (fuel := 60) (hs := []) S4_ok Try.func20 (by kernel_rfl) ?_
    simp only [Try.f20, S4, sFMir, sFIn, sFOut, s6In, s6Out, s6Is, S3, s5Null, S2, sVSum, S1, sVOf, sVRead, sVSub, sVScale, sVDot, s5Of, s5Zero, s5Read, s5Add, s5Sub, s5Scale, s5Dot, s5Is, S0, i0, i1, i2, OkRunT, ATg, BT, BsT, LT, LfT, bvsB, bvB, lsB, lfB, exF, exC, exR, run, step, wantO, want, ev, look, rdO, app, putT, TT.at, tt0, find, args, head, wantA, avOf, bxOf, nwOf, ptOf, ldOf, touch, reads, rdsOf, wfind, putW, mid, cut, lsize, Lf.size, lay, fillA, rowA, cmpI, eqB, sized, tell, tellB, tellL, chk1, chk2, noPt, noNw, allPuts, resA, resA1, oneOf, av1, mkR, cn, agR, rats, ratsL, ratsAll, rowR, sp1, sp2, spL, spOf, spIs, sp0, spN, spC, ratsC, ratsCs, rowV, rowVL, sumL, prodL, plain, undef, BV.into, BV.free, AV.free, OkRun, ALe, BLe, BsLe, LLe, LfLe, List.map, List.length_cons, List.length_nil, List.replicate, List.append_eq, List.cons_append, List.nil_append, List.append_nil, Nat.reduceAdd, Nat.reduceSub, Nat.reduceMul, Int.reduceAdd, Int.reduceSub, Int.reduceToNat, Int.toNat_zero, Int.toNat_one, Nat.beq, Nat.ble, Nat.beq_refl, List.getElem?_cons_zero, List.getElem?_cons_succ, List.getElem?_nil, List.set, List.all, Bool.and_true, Bool.true_and, Bool.and_self, Bool.not_true, Bool.not_false, List.flatten, List.foldl, List.take, List.drop, Nat.max_self, true_and, and_true, and_self, true_implies, implies_true, forall_const]
    rintro ⟨⟨d_e11, d_e12, d_e13, d_e21, d_e22, d_e23, d_e31, d_e32, d_e33⟩, d_u, d_v⟩
    replace d_e11 := d_e11 (by omega)
    replace d_e12 := d_e12 (by omega)
    replace d_e13 := d_e13 (by omega)
    replace d_e21 := d_e21 (by omega)
    replace d_e22 := d_e22 (by omega)
    replace d_e23 := d_e23 (by omega)
    replace d_e31 := d_e31 (by omega)
    replace d_e32 := d_e32 (by omega)
    replace d_e33 := d_e33 (by omega)
    replace d_u := d_u (by omega)
    replace d_v := d_v (by omega)
    and_intros
    all_goals first | with_reducible rfl | omega | (show Bd _ _; refine Bd.mono (by repeat' (with_reducible first | apply Bd.add | apply Bd.sub | apply Bd.mul | apply Bd.div | apply Bd.neg | apply Bd.ite | exact Bd.zero | exact Bd.one | exact Bd.two | assumption)) ?_; omega) | (first | with_reducible rfl | grind)
  · cases h)
def s6Along : Spec := spN 21 fun l => match l with
  | [([e11, e12, e13, e21, e22, e23, e31, e32, e33], K), ([u], L), ([v], M)] => some (⟨.inl (cn [u * e11 + v * e21 + e31, u * e12 + v * e22 + e32, u * e13 + v * e23 + e33] (3 * K + L + M + 2))⟩, 1 ≤ K ∧ 1 ≤ L ∧ 1 ≤ M ∧ 8 * max K (max L M) + 32 ≤ 17179869184)
  | _ => none
set_option maxHeartbeats 8000000 in
theorem s6Along_ok : SpecOk Try.prog s6Along := SpecOk.mk' Try.func21 (by kernel_rfl) (by kernel_rfl) (spN_at fun l r p h hp => by
  split at h
  · rename_i e11 e12 e13 e21 e22 e23 e31 e32 e33 K u L v M
    cases h
    have i0 : ((0 : Int) : Rat) / ((1 : Int) : Rat) = 0 := by decide +kernel
    have i1 : ((1 : Int) : Rat) / ((1 : Int) : Rat) = 1 := by decide +kernel
    have i2 : ((2 : Int) : Rat) / ((1 : Int) : Rat) = 2 := by decide +kernel
    refine At.okT (fuel := 60) (hs := []) S4_ok Try.func21 (by kernel_rfl) ?_
    simp only [Try.f21, S4, sFMir, sFIn, sFOut, s6In, s6Out, s6Is, S3, s5Null, S2, sVSum, S1, sVOf, sVRead, sVSub, sVScale, sVDot, s5Of, s5Zero, s5Read, s5Add, s5Sub, s5Scale, s5Dot, s5Is, S0, i0, i1, i2, OkRunT, ATg, BT, BsT, LT, LfT, bvsB, bvB, lsB, lfB, exF, exC, exR, run, step, wantO, want, ev, look, rdO, app, putT, TT.at, tt0, find, args, head, wantA, avOf, bxOf, nwOf, ptOf, ldOf, touch, reads, rdsOf, wfind, putW, mid, cut, lsize, Lf.size, lay, fillA, rowA, cmpI, eqB, sized, tell, tellB, tellL, chk1, chk2, noPt, noNw, allPuts, resA, resA1, oneOf, av1, mkR, cn, agR, rats, ratsL, ratsAll, rowR, sp1, sp2, spL, spOf, spIs, sp0, spN, spC, ratsC, ratsCs, rowV, rowVL, sumL, prodL, plain, undef, BV.into, BV.free, AV.free, OkRun, ALe, BLe, BsLe, LLe, LfLe, List.map, List.length_cons, List.length_nil, List.replicate, List.append_eq, List.cons_append, List.nil_append, List.append_nil, Nat.reduceAdd, Nat.reduceSub, Nat.reduceMul, Int.reduceAdd, Int.reduceSub, Int.reduceToNat, Int.toNat_zero, Int.toNat_one, Nat.beq, Nat.ble, Nat.beq_refl, List.getElem?_cons_zero, List.getElem?_cons_succ, List.getElem?_nil, List.set, List.all, Bool.and_true, Bool.true_and, Bool.and_self, Bool.not_true, Bool.not_false, List.flatten, List.foldl, List.take, List.drop, Nat.max_self, true_and, and_true, and_self, true_implies, implies_true, forall_const]
    rintro ⟨⟨d_e11, d_e12, d_e13, d_e21, d_e22, d_e23, d_e31, d_e32, d_e33⟩, d_u, d_v⟩
    replace d_e11 := d_e11 (by omega)
    replace d_e12 := d_e12 (by omega)
    replace d_e13 := d_e13 (by omega)
    replace d_e21 := d_e21 (by omega)
    replace d_e22 := d_e22 (by omega)
    replace d_e23 := d_e23 (by omega)
    replace d_e31 := d_e31 (by omega)
    replace d_e32 := d_e32 (by omega)
    replace d_e33 := d_e33 (by omega)
    replace d_u := d_u (by omega)
    replace d_v := d_v (by omega)
    and_intros
    all_goals first | with_reducible rfl | omega | (show Bd _ _; refine Bd.mono (by repeat' (with_reducible first | apply Bd.add | apply Bd.sub | apply Bd.mul | apply Bd.div | apply Bd.neg | apply Bd.ite | exact Bd.zero | exact Bd.one | exact Bd.two | assumption)) ?_; omega) | (first | with_reducible rfl | grind)
  · cases h)
def sFOf : Spec := spN 8 fun l => match l with
  | [([n1, n2, n3], K)] => some (⟨.inr [cn [fr11 n1 n2 n3, fr12 n1 n2 n3, frn n1 n2 n3 n1, fr12 n1 n2 n3, fr22 n1 n2 n3, frn n1 n2 n3 n2, frn n1 n2 n3 n1, frn n1 n2 n3 n2, frn n1 n2 n3 n3] (3 * K + 5), ⟨some (.inl (.bool (decide (n1 * n1 + n2 * n2 + n3 * n3 = 1))))⟩]⟩, 1 ≤ K ∧ 200 * K + 600 ≤ 1073741824)
  | _ => none
set_option maxHeartbeats 8000000 in
theorem sFOf_ok : SpecOk Try.prog sFOf := SpecOk.mk' Try.func8 (by kernel_rfl) (by kernel_rfl) (spN_at fun l r p h hp => by
  split at h
  · rename_i n1 n2 n3 K
    cases h
    have i0 : ((0 : Int) : Rat) / ((1 : Int) : Rat) = 0 := by decide +kernel
    have i1 : ((1 : Int) : Rat) / ((1 : Int) : Rat) = 1 := by decide +kernel
    have i2 : ((2 : Int) : Rat) / ((1 : Int) : Rat) = 2 := by decide +kernel
    by_cases hD : n1 * n1 + n2 * n2 + n3 * n3 = 1
    · obtain ⟨y1, y2, y3, y4⟩ := fr_yes hD
      have hq := hh_q hD
      rw [show decide (n1 * n1 + n2 * n2 + n3 * n3 = 1) = true from by simp [hD], y1, y2, y3, y4, y4, y4]
      clear y1 y2 y3 y4
      refine At.okT (fuel := 60) (hs := [true]) S4_ok Try.func8 (by kernel_rfl) ?_
      simp only [Try.f8, S4, sFMir, sFIn, sFOut, s6In, s6Out, s6Is, S3, s5Null, S2, sVSum, S1, sVOf, sVRead, sVSub, sVScale, sVDot, s5Of, s5Zero, s5Read, s5Add, s5Sub, s5Scale, s5Dot, s5Is, S0, i0, i1, i2, hD, decide_eq_true_eq, decide_eq_false_iff_not, ne_eq, not_true_eq_false, not_false_eq_true, Decidable.not_not, beq_iff_eq, beq_eq_false_iff_ne, bne_eq_false_iff_eq, bne_iff_ne, qsgn_zero, hq, OkRunT, ATg, BT, BsT, LT, LfT, bvsB, bvB, lsB, lfB, exF, exC, exR, run, step, wantO, want, ev, look, rdO, app, putT, TT.at, tt0, find, args, head, wantA, avOf, bxOf, nwOf, ptOf, ldOf, touch, reads, rdsOf, wfind, putW, mid, cut, lsize, Lf.size, lay, fillA, rowA, cmpI, eqB, sized, tell, tellB, tellL, chk1, chk2, noPt, noNw, allPuts, resA, resA1, oneOf, av1, mkR, cn, agR, rats, ratsL, ratsAll, rowR, sp1, sp2, spL, spOf, spIs, sp0, spN, spC, ratsC, ratsCs, rowV, rowVL, sumL, prodL, plain, undef, BV.into, BV.free, AV.free, OkRun, ALe, BLe, BsLe, LLe, LfLe, List.map, List.length_cons, List.length_nil, List.replicate, List.append_eq, List.cons_append, List.nil_append, List.append_nil, Nat.reduceAdd, Nat.reduceSub, Nat.reduceMul, Int.reduceAdd, Int.reduceSub, Int.reduceToNat, Int.toNat_zero, Int.toNat_one, Nat.beq, Nat.ble, Nat.beq_refl, List.getElem?_cons_zero, List.getElem?_cons_succ, List.getElem?_nil, List.set, List.all, Bool.and_true, Bool.true_and, Bool.and_self, Bool.not_true, Bool.not_false, List.flatten, List.foldl, List.take, List.drop, Nat.max_self, true_and, and_true, and_self, true_implies, implies_true, forall_const]
      rintro ⟨d_n1, d_n2, d_n3⟩
      replace d_n1 := d_n1 (by omega)
      replace d_n2 := d_n2 (by omega)
      replace d_n3 := d_n3 (by omega)
      and_intros
      all_goals first | with_reducible rfl | omega | (show Bd _ _; refine Bd.mono (by repeat' (with_reducible first | apply Bd.add | apply Bd.sub | apply Bd.mul | apply Bd.div | apply Bd.neg | apply Bd.ite | exact Bd.zero | exact Bd.one | exact Bd.two | assumption)) ?_; omega) | ((have hc := hh_cases hD; grind))
    · obtain ⟨y1, y2, y3, y4⟩ := fr_no hD
      rw [show decide (n1 * n1 + n2 * n2 + n3 * n3 = 1) = false from by simp [hD], y1, y2, y3, y4, y4, y4]
      clear y1 y2 y3 y4
      refine At.okT (fuel := 60) (hs := [false]) S4_ok Try.func8 (by kernel_rfl) ?_
      simp only [Try.f8, S4, sFMir, sFIn, sFOut, s6In, s6Out, s6Is, S3, s5Null, S2, sVSum, S1, sVOf, sVRead, sVSub, sVScale, sVDot, s5Of, s5Zero, s5Read, s5Add, s5Sub, s5Scale, s5Dot, s5Is, S0, i0, i1, i2, hD, decide_eq_true_eq, decide_eq_false_iff_not, ne_eq, not_true_eq_false, not_false_eq_true, Decidable.not_not, beq_iff_eq, beq_eq_false_iff_ne, bne_eq_false_iff_eq, bne_iff_ne, qsgn_zero, OkRunT, ATg, BT, BsT, LT, LfT, bvsB, bvB, lsB, lfB, exF, exC, exR, run, step, wantO, want, ev, look, rdO, app, putT, TT.at, tt0, find, args, head, wantA, avOf, bxOf, nwOf, ptOf, ldOf, touch, reads, rdsOf, wfind, putW, mid, cut, lsize, Lf.size, lay, fillA, rowA, cmpI, eqB, sized, tell, tellB, tellL, chk1, chk2, noPt, noNw, allPuts, resA, resA1, oneOf, av1, mkR, cn, agR, rats, ratsL, ratsAll, rowR, sp1, sp2, spL, spOf, spIs, sp0, spN, spC, ratsC, ratsCs, rowV, rowVL, sumL, prodL, plain, undef, BV.into, BV.free, AV.free, OkRun, ALe, BLe, BsLe, LLe, LfLe, List.map, List.length_cons, List.length_nil, List.replicate, List.append_eq, List.cons_append, List.nil_append, List.append_nil, Nat.reduceAdd, Nat.reduceSub, Nat.reduceMul, Int.reduceAdd, Int.reduceSub, Int.reduceToNat, Int.toNat_zero, Int.toNat_one, Nat.beq, Nat.ble, Nat.beq_refl, List.getElem?_cons_zero, List.getElem?_cons_succ, List.getElem?_nil, List.set, List.all, Bool.and_true, Bool.true_and, Bool.and_self, Bool.not_true, Bool.not_false, List.flatten, List.foldl, List.take, List.drop, Nat.max_self, true_and, and_true, and_self, true_implies, implies_true, forall_const]
      rintro ⟨d_n1, d_n2, d_n3⟩
      replace d_n1 := d_n1 (by omega)
      replace d_n2 := d_n2 (by omega)
      replace d_n3 := d_n3 (by omega)
      and_intros
      all_goals first | with_reducible rfl | omega | (show Bd _ _; refine Bd.mono (by repeat' (with_reducible first | apply Bd.add | apply Bd.sub | apply Bd.mul | apply Bd.div | apply Bd.neg | apply Bd.ite | exact Bd.zero | exact Bd.one | exact Bd.two | assumption)) ?_; omega) | (first | with_reducible rfl | grind)
  · cases h)
def s6Of : Spec := spN 9 fun l => match l with
  | [([n1, n2, n3], K)] => some (⟨.inr [cn [fr11 n1 n2 n3, fr12 n1 n2 n3, frn n1 n2 n3 n1, fr12 n1 n2 n3, fr22 n1 n2 n3, frn n1 n2 n3 n2, frn n1 n2 n3 n1, frn n1 n2 n3 n2, frn n1 n2 n3 n3] (3 * K + 5), ⟨some (.inl (.bool (decide (n1 * n1 + n2 * n2 + n3 * n3 = 1))))⟩]⟩, 1 ≤ K ∧ 200 * K + 600 ≤ 17179869184)
  | _ => none
set_option maxHeartbeats 8000000 in
theorem s6Of_ok : SpecOk Try.prog s6Of := SpecOk.mk' Try.func9 (by kernel_rfl) (by kernel_rfl) (spN_at fun l r p h hp => by
  split at h
  · rename_i n1 n2 n3 K
    cases h
    have i0 : ((0 : Int) : Rat) / ((1 : Int) : Rat) = 0 := by decide +kernel
    have i1 : ((1 : Int) : Rat) / ((1 : Int) : Rat) = 1 := by decide +kernel
    have i2 : ((2 : Int) : Rat) / ((1 : Int) : Rat) = 2 := by decide +kernel
    by_cases hD : n1 * n1 + n2 * n2 + n3 * n3 = 1
    · obtain ⟨y1, y2, y3, y4⟩ := fr_yes hD
      have hq := hh_q hD
      rw [show decide (n1 * n1 + n2 * n2 + n3 * n3 = 1) = true from by simp [hD], y1, y2, y3, y4, y4, y4]
      clear y1 y2 y3 y4
      rcases hh_cases hD with ⟨rfl, rfl, rfl⟩ | ⟨h3, hs⟩
      · refine At.okT (fuel := 60) (hs := [true, true]) S4_ok Try.func9 (by kernel_rfl) ?_
        simp only [Try.f9, S4, sFMir, sFIn, sFOut, s6In, s6Out, s6Is, S3, s5Null, S2, sVSum, S1, sVOf, sVRead, sVSub, sVScale, sVDot, s5Of, s5Zero, s5Read, s5Add, s5Sub, s5Scale, s5Dot, s5Is, S0, i0, i1, i2, decide_eq_true_eq, decide_eq_false_iff_not, ne_eq, not_true_eq_false, not_false_eq_true, Decidable.not_not, beq_iff_eq, beq_eq_false_iff_ne, bne_eq_false_iff_eq, bne_iff_ne, qsgn_zero, OkRunT, ATg, BT, BsT, LT, LfT, bvsB, bvB, lsB, lfB, exF, exC, exR, run, step, wantO, want, ev, look, rdO, app, putT, TT.at, tt0, find, args, head, wantA, avOf, bxOf, nwOf, ptOf, ldOf, touch, reads, rdsOf, wfind, putW, mid, cut, lsize, Lf.size, lay, fillA, rowA, cmpI, eqB, sized, tell, tellB, tellL, chk1, chk2, noPt, noNw, allPuts, resA, resA1, oneOf, av1, mkR, cn, agR, rats, ratsL, ratsAll, rowR, sp1, sp2, spL, spOf, spIs, sp0, spN, spC, ratsC, ratsCs, rowV, rowVL, sumL, prodL, plain, undef, BV.into, BV.free, AV.free, OkRun, ALe, BLe, BsLe, LLe, LfLe, List.map, List.length_cons, List.length_nil, List.replicate, List.append_eq, List.cons_append, List.nil_append, List.append_nil, Nat.reduceAdd, Nat.reduceSub, Nat.reduceMul, Int.reduceAdd, Int.reduceSub, Int.reduceToNat, Int.toNat_zero, Int.toNat_one, Nat.beq, Nat.ble, Nat.beq_refl, List.getElem?_cons_zero, List.getElem?_cons_succ, List.getElem?_nil, List.set, List.all, Bool.and_true, Bool.true_and, Bool.and_self, Bool.not_true, Bool.not_false, List.flatten, List.foldl, List.take, List.drop, Nat.max_self, true_and, and_true, and_self, true_implies, implies_true, forall_const]
        rintro ⟨d_n1, d_n2, d_n3⟩
        replace d_n1 := d_n1 (by omega)
        replace d_n2 := d_n2 (by omega)
        replace d_n3 := d_n3 (by omega)
        and_intros
        all_goals first | with_reducible rfl | omega | (show Bd _ _; refine Bd.mono (by repeat' (with_reducible first | apply Bd.add | apply Bd.sub | apply Bd.mul | apply Bd.div | apply Bd.neg | apply Bd.ite | exact Bd.zero | exact Bd.one | exact Bd.two | assumption)) ?_; omega) | (first | (decide +kernel) | grind)
      · refine At.okT (fuel := 60) (hs := [true, false]) S4_ok Try.func9 (by kernel_rfl) ?_
        simp only [Try.f9, S4, sFMir, sFIn, sFOut, s6In, s6Out, s6Is, S3, s5Null, S2, sVSum, S1, sVOf, sVRead, sVSub, sVScale, sVDot, s5Of, s5Zero, s5Read, s5Add, s5Sub, s5Scale, s5Dot, s5Is, S0, i0, i1, i2, hD, decide_eq_true_eq, decide_eq_false_iff_not, ne_eq, not_true_eq_false, not_false_eq_true, Decidable.not_not, beq_iff_eq, beq_eq_false_iff_ne, bne_eq_false_iff_eq, bne_iff_ne, qsgn_zero, hq, OkRunT, ATg, BT, BsT, LT, LfT, bvsB, bvB, lsB, lfB, exF, exC, exR, run, step, wantO, want, ev, look, rdO, app, putT, TT.at, tt0, find, args, head, wantA, avOf, bxOf, nwOf, ptOf, ldOf, touch, reads, rdsOf, wfind, putW, mid, cut, lsize, Lf.size, lay, fillA, rowA, cmpI, eqB, sized, tell, tellB, tellL, chk1, chk2, noPt, noNw, allPuts, resA, resA1, oneOf, av1, mkR, cn, agR, rats, ratsL, ratsAll, rowR, sp1, sp2, spL, spOf, spIs, sp0, spN, spC, ratsC, ratsCs, rowV, rowVL, sumL, prodL, plain, undef, BV.into, BV.free, AV.free, OkRun, ALe, BLe, BsLe, LLe, LfLe, List.map, List.length_cons, List.length_nil, List.replicate, List.append_eq, List.cons_append, List.nil_append, List.append_nil, Nat.reduceAdd, Nat.reduceSub, Nat.reduceMul, Int.reduceAdd, Int.reduceSub, Int.reduceToNat, Int.toNat_zero, Int.toNat_one, Nat.beq, Nat.ble, Nat.beq_refl, List.getElem?_cons_zero, List.getElem?_cons_succ, List.getElem?_nil, List.set, List.all, Bool.and_true, Bool.true_and, Bool.and_self, Bool.not_true, Bool.not_false, List.flatten, List.foldl, List.take, List.drop, Nat.max_self, true_and, and_true, and_self, true_implies, implies_true, forall_const]
        rintro ⟨d_n1, d_n2, d_n3⟩
        replace d_n1 := d_n1 (by omega)
        replace d_n2 := d_n2 (by omega)
        replace d_n3 := d_n3 (by omega)
        and_intros
        all_goals first | with_reducible rfl | omega | (show Bd _ _; refine Bd.mono (by repeat' (with_reducible first | apply Bd.add | apply Bd.sub | apply Bd.mul | apply Bd.div | apply Bd.neg | apply Bd.ite | exact Bd.zero | exact Bd.one | exact Bd.two | assumption)) ?_; omega) | (grind)
    · obtain ⟨y1, y2, y3, y4⟩ := fr_no hD
      rw [show decide (n1 * n1 + n2 * n2 + n3 * n3 = 1) = false from by simp [hD], y1, y2, y3, y4, y4, y4]
      clear y1 y2 y3 y4
      refine At.okT (fuel := 60) (hs := [false]) S4_ok Try.func9 (by kernel_rfl) ?_
      simp only [Try.f9, S4, sFMir, sFIn, sFOut, s6In, s6Out, s6Is, S3, s5Null, S2, sVSum, S1, sVOf, sVRead, sVSub, sVScale, sVDot, s5Of, s5Zero, s5Read, s5Add, s5Sub, s5Scale, s5Dot, s5Is, S0, i0, i1, i2, hD, decide_eq_true_eq, decide_eq_false_iff_not, ne_eq, not_true_eq_false, not_false_eq_true, Decidable.not_not, beq_iff_eq, beq_eq_false_iff_ne, bne_eq_false_iff_eq, bne_iff_ne, qsgn_zero, OkRunT, ATg, BT, BsT, LT, LfT, bvsB, bvB, lsB, lfB, exF, exC, exR, run, step, wantO, want, ev, look, rdO, app, putT, TT.at, tt0, find, args, head, wantA, avOf, bxOf, nwOf, ptOf, ldOf, touch, reads, rdsOf, wfind, putW, mid, cut, lsize, Lf.size, lay, fillA, rowA, cmpI, eqB, sized, tell, tellB, tellL, chk1, chk2, noPt, noNw, allPuts, resA, resA1, oneOf, av1, mkR, cn, agR, rats, ratsL, ratsAll, rowR, sp1, sp2, spL, spOf, spIs, sp0, spN, spC, ratsC, ratsCs, rowV, rowVL, sumL, prodL, plain, undef, BV.into, BV.free, AV.free, OkRun, ALe, BLe, BsLe, LLe, LfLe, List.map, List.length_cons, List.length_nil, List.replicate, List.append_eq, List.cons_append, List.nil_append, List.append_nil, Nat.reduceAdd, Nat.reduceSub, Nat.reduceMul, Int.reduceAdd, Int.reduceSub, Int.reduceToNat, Int.toNat_zero, Int.toNat_one, Nat.beq, Nat.ble, Nat.beq_refl, List.getElem?_cons_zero, List.getElem?_cons_succ, List.getElem?_nil, List.set, List.all, Bool.and_true, Bool.true_and, Bool.and_self, Bool.not_true, Bool.not_false, List.flatten, List.foldl, List.take, List.drop, Nat.max_self, true_and, and_true, and_self, true_implies, implies_true, forall_const]
      rintro ⟨d_n1, d_n2, d_n3⟩
      replace d_n1 := d_n1 (by omega)
      replace d_n2 := d_n2 (by omega)
      replace d_n3 := d_n3 (by omega)
      and_intros
      all_goals first | with_reducible rfl | omega | (show Bd _ _; refine Bd.mono (by repeat' (with_reducible first | apply Bd.add | apply Bd.sub | apply Bd.mul | apply Bd.div | apply Bd.neg | apply Bd.ite | exact Bd.zero | exact Bd.one | exact Bd.two | assumption)) ?_; omega) | (first | with_reducible rfl | grind)
  · cases h)
def S5 : List Spec := sFSlopes :: s6Slopes :: sFAlong :: s6Along :: sFOf :: s6Of :: S4
theorem S5_ok : AllOk Try.prog S5 := ⟨sFSlopes_ok, s6Slopes_ok, sFAlong_ok, s6Along_ok, sFOf_ok, s6Of_ok, S4_ok⟩
end Go.Proofs.Ytjjebiihoibpmaa.Sym

/- penumbralaw06.fixed: true; what is known of frames. -/
namespace Go.Proofs.Ytjjebiihoibpmaa.Sym
open Go Go.RowKit M Kahn
set_option maxRecDepth 1000000
set_option linter.unusedSimpArgs false
set_option linter.unusedVariables false

theorem Orth.out1 {e11 e12 e13 e21 e22 e23 e31 e32 e33 : Rat} (o : Orth e11 e12 e13 e21 e22 e23 e31 e32 e33) (a1 a2 a3 : Rat) : (a1 * e11 + a2 * e12 + a3 * e13) * e11 + (a1 * e21 + a2 * e22 + a3 * e23) * e21 + (a1 * e31 + a2 * e32 + a3 * e33) * e31 = a1 := by
  rw [show (a1 * e11 + a2 * e12 + a3 * e13) * e11 + (a1 * e21 + a2 * e22 + a3 * e23) * e21 + (a1 * e31 + a2 * e32 + a3 * e33) * e31 = a1 * (e11 * e11 + e21 * e21 + e31 * e31) + a2 * (e12 * e11 + e22 * e21 + e32 * e31) + a3 * (e13 * e11 + e23 * e21 + e33 * e31) from by grind, o.c11, o.c21, o.c31]; grind
theorem Orth.out2 {e11 e12 e13 e21 e22 e23 e31 e32 e33 : Rat} (o : Orth e11 e12 e13 e21 e22 e23 e31 e32 e33) (a1 a2 a3 : Rat) : (a1 * e11 + a2 * e12 + a3 * e13) * e12 + (a1 * e21 + a2 * e22 + a3 * e23) * e22 + (a1 * e31 + a2 * e32 + a3 * e33) * e32 = a2 := by
  rw [show (a1 * e11 + a2 * e12 + a3 * e13) * e12 + (a1 * e21 + a2 * e22 + a3 * e23) * e22 + (a1 * e31 + a2 * e32 + a3 * e33) * e32 = a1 * (e11 * e12 + e21 * e22 + e31 * e32) + a2 * (e12 * e12 + e22 * e22 + e32 * e32) + a3 * (e13 * e12 + e23 * e22 + e33 * e32) from by grind, o.c12, o.c22, o.c32]; grind
theorem Orth.out3 {e11 e12 e13 e21 e22 e23 e31 e32 e33 : Rat} (o : Orth e11 e12 e13 e21 e22 e23 e31 e32 e33) (a1 a2 a3 : Rat) : (a1 * e11 + a2 * e12 + a3 * e13) * e13 + (a1 * e21 + a2 * e22 + a3 * e23) * e23 + (a1 * e31 + a2 * e32 + a3 * e33) * e33 = a3 := by
  rw [show (a1 * e11 + a2 * e12 + a3 * e13) * e13 + (a1 * e21 + a2 * e22 + a3 * e23) * e23 + (a1 * e31 + a2 * e32 + a3 * e33) * e33 = a1 * (e11 * e13 + e21 * e23 + e31 * e33) + a2 * (e12 * e13 + e22 * e23 + e32 * e33) + a3 * (e13 * e13 + e23 * e23 + e33 * e33) from by grind, o.c13, o.c23, o.c33]; grind
theorem Orth.in1 {e11 e12 e13 e21 e22 e23 e31 e32 e33 : Rat} (o : Orth e11 e12 e13 e21 e22 e23 e31 e32 e33) (a1 a2 a3 : Rat) : (a1 * e11 + a2 * e21 + a3 * e31) * e11 + (a1 * e12 + a2 * e22 + a3 * e32) * e12 + (a1 * e13 + a2 * e23 + a3 * e33) * e13 = a1 := by
  rw [show (a1 * e11 + a2 * e21 + a3 * e31) * e11 + (a1 * e12 + a2 * e22 + a3 * e32) * e12 + (a1 * e13 + a2 * e23 + a3 * e33) * e13 = a1 * (e11 * e11 + e12 * e12 + e13 * e13) + a2 * (e21 * e11 + e22 * e12 + e23 * e13) + a3 * (e31 * e11 + e32 * e12 + e33 * e13) from by grind, o.r11, o.r21, o.r31]; grind
theorem Orth.in2 {e11 e12 e13 e21 e22 e23 e31 e32 e33 : Rat} (o : Orth e11 e12 e13 e21 e22 e23 e31 e32 e33) (a1 a2 a3 : Rat) : (a1 * e11 + a2 * e21 + a3 * e31) * e21 + (a1 * e12 + a2 * e22 + a3 * e32) * e22 + (a1 * e13 + a2 * e23 + a3 * e33) * e23 = a2 := by
  rw [show (a1 * e11 + a2 * e21 + a3 * e31) * e21 + (a1 * e12 + a2 * e22 + a3 * e32) * e22 + (a1 * e13 + a2 * e23 + a3 * e33) * e23 = a1 * (e11 * e21 + e12 * e22 + e13 * e23) + a2 * (e21 * e21 + e22 * e22 + e23 * e23) + a3 * (e31 * e21 + e32 * e22 + e33 * e23) from by grind, o.r12, o.r22, o.r32]; grind
theorem Orth.in3 {e11 e12 e13 e21 e22 e23 e31 e32 e33 : Rat} (o : Orth e11 e12 e13 e21 e22 e23 e31 e32 e33) (a1 a2 a3 : Rat) : (a1 * e11 + a2 * e21 + a3 * e31) * e31 + (a1 * e12 + a2 * e22 + a3 * e32) * e32 + (a1 * e13 + a2 * e23 + a3 * e33) * e33 = a3 := by
  rw [show (a1 * e11 + a2 * e21 + a3 * e31) * e31 + (a1 * e12 + a2 * e22 + a3 * e32) * e32 + (a1 * e13 + a2 * e23 + a3 * e33) * e33 = a1 * (e11 * e31 + e12 * e32 + e13 * e33) + a2 * (e21 * e31 + e22 * e32 + e23 * e33) + a3 * (e31 * e31 + e32 * e32 + e33 * e33) from by grind, o.r13, o.r23, o.r33]; grind
def sFixed : Spec := ⟨10, fun xs => match xs with
  | [] => some (⟨.inl ⟨some (.inl (.bool true))⟩⟩, True)
  | _ => none⟩
set_option maxHeartbeats 16000000 in
theorem sFixed_ok : SpecOk Try.prog sFixed := SpecOk.mk' Try.func10 (by kernel_rfl) (by kernel_rfl) (fun xs r p h hp => by
  simp only [sFixed] at h
  split at h
  · cases h
    have i0 : ((0 : Int) : Rat) / ((1 : Int) : Rat) = 0 := by decide +kernel
    have i1 : ((1 : Int) : Rat) / ((1 : Int) : Rat) = 1 := by decide +kernel
    have im : ((-1 : Int) : Rat) / ((1 : Int) : Rat) = -1 := by decide +kernel
    refine At.ok (fuel := 60) (hs := [true, false, true, true, true, true, true, true, true]) S5_ok Try.func10 (by kernel_rfl) ?_
    simp only [Try.f10, S5, sFSlopes, s6Slopes, sFAlong, s6Along, sFOf, s6Of, S4, sFMir, sFIn, sFOut, s6In, s6Out, s6Is, S3, s5Null, S2, sVSum, S1, sVOf, sVRead, sVSub, sVScale, sVDot, s5Of, s5Zero, s5Read, s5Add, s5Sub, s5Scale, s5Dot, s5Is, S0, decide_eq_true_eq, decide_eq_false_iff_not, ne_eq, not_true_eq_false, not_false_eq_true, Decidable.not_not, beq_iff_eq, beq_eq_false_iff_ne, bne_eq_false_iff_eq, bne_iff_ne, qsgn_zero, eq_self, decide_true, decide_false, and_self, i0, i1, im, exF, exC, exR, run, step, wantO, want, ev, look, rdO, app, putT, TT.at, tt0, find, args, head, wantA, avOf, bxOf, nwOf, ptOf, ldOf, touch, reads, rdsOf, wfind, putW, mid, cut, lsize, Lf.size, lay, fillA, rowA, cmpI, eqB, sized, tell, tellB, tellL, chk1, chk2, noPt, noNw, allPuts, resA, resA1, oneOf, av1, mkR, cn, agR, rats, ratsL, ratsAll, rowR, sp1, sp2, spL, spOf, spIs, sp0, spN, spC, ratsC, ratsCs, rowV, rowVL, sumL, prodL, plain, undef, BV.into, BV.free, AV.free, OkRun, ALe, BLe, BsLe, LLe, LfLe, List.map, List.length_cons, List.length_nil, List.replicate, List.append_eq, List.cons_append, List.nil_append, List.append_nil, Nat.reduceAdd, Nat.reduceSub, Nat.reduceMul, Int.reduceAdd, Int.reduceSub, Int.reduceToNat, Int.toNat_zero, Int.toNat_one, Nat.beq, Nat.ble, Nat.beq_refl, List.getElem?_cons_zero, List.getElem?_cons_succ, List.getElem?_nil, List.set, List.all, Bool.and_true, Bool.true_and, Bool.and_self, Bool.not_true, Bool.not_false, List.flatten, List.foldl, List.take, List.drop, Nat.max_self, true_and, and_true, and_self, true_implies, implies_true, forall_const]
    and_intros
    all_goals first | with_reducible rfl | omega | (decide +kernel)
  · cases h)
def S6 : List Spec := sFixed :: S5
theorem S6_ok : AllOk Try.prog S6 := ⟨sFixed_ok, S5_ok⟩
end Go.Proofs.Ytjjebiihoibpmaa.Sym
