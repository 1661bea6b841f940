/- Package frame, and penumbraref06, by runs. -/
import Derived.Test.YtjjebiihoibpmaaAx
namespace Go.Proofs.Ytjjebiihoibpmaa.Sym
open Go Go.RowKit M Kahn
set_option maxRecDepth 1000000
set_option linter.unusedSimpArgs false
set_option linter.unusedVariables false

theorem sq_zero {a b : Rat} (h : a * a + b * b = 0) : a = 0 ∧ b = 0 := by
  have nn : ∀ x : Rat, 0 ≤ x * x := fun x => by
    rcases Rat.le_total (a := 0) (b := x) with h | h
    · exact Rat.mul_nonneg h h
    · have := Rat.mul_nonneg (a := -x) (b := -x) (by grind) (by grind)
      grind
  have h1 := nn a
  have h2 := nn b
  have h3 : a * a = 0 := by grind
  have h4 : b * b = 0 := by grind
  rw [Rat.mul_eq_zero, or_self] at h3 h4
  exact ⟨h3, h4⟩
theorem hh_cases {n1 n2 n3 : Rat} (h : n1 * n1 + n2 * n2 + n3 * n3 = 1) : (n1 = 0 ∧ n2 = 0 ∧ n3 = 1) ∨ (n3 ≠ 1 ∧ (1 / (1 - n3)) * (1 - n3) = 1) := by
  by_cases h3 : n3 = 1
  · have := sq_zero (a := n1) (b := n2) (by grind)
    exact .inl ⟨this.1, this.2, h3⟩
  · exact .inr ⟨h3, by grind⟩
theorem hh_q {n1 n2 n3 : Rat} (h : n1 * n1 + n2 * n2 + n3 * n3 = 1) (x : Rat) : (2 * x) / ((0 - n1) * (0 - n1) + (0 - n2) * (0 - n2) + (1 - n3) * (1 - n3)) = x * (1 / (1 - n3)) := by
  rw [show (0 - n1) * (0 - n1) + (0 - n2) * (0 - n2) + (1 - n3) * (1 - n3) = 2 * (1 - n3) from by grind]
  by_cases h3 : n3 = 1
  · subst h3; grind
  · grind
/-- The frame around a direction: its numbers. -/
def fr11 (n1 n2 n3 : Rat) : Rat := if n1 * n1 + n2 * n2 + n3 * n3 = 1 then 1 - n1 * n1 * (1 / (1 - n3)) else 0
def fr12 (n1 n2 n3 : Rat) : Rat := if n1 * n1 + n2 * n2 + n3 * n3 = 1 then -(n1 * n2 * (1 / (1 - n3))) else 0
def fr22 (n1 n2 n3 : Rat) : Rat := if n1 * n1 + n2 * n2 + n3 * n3 = 1 then 1 - n2 * n2 * (1 / (1 - n3)) else 0
def frn (n1 n2 n3 x : Rat) : Rat := if n1 * n1 + n2 * n2 + n3 * n3 = 1 then x else 0
theorem fr_yes {n1 n2 n3 : Rat} (h : n1 * n1 + n2 * n2 + n3 * n3 = 1) : fr11 n1 n2 n3 = 1 - n1 * n1 * (1 / (1 - n3)) ∧ fr12 n1 n2 n3 = -(n1 * n2 * (1 / (1 - n3))) ∧ fr22 n1 n2 n3 = 1 - n2 * n2 * (1 / (1 - n3)) ∧ ∀ x, frn n1 n2 n3 x = x :=
  ⟨if_pos h, if_pos h, if_pos h, fun _ => if_pos h⟩
theorem fr_no {n1 n2 n3 : Rat} (h : ¬ n1 * n1 + n2 * n2 + n3 * n3 = 1) : fr11 n1 n2 n3 = 0 ∧ fr12 n1 n2 n3 = 0 ∧ fr22 n1 n2 n3 = 0 ∧ ∀ x, frn n1 n2 n3 x = 0 :=
  ⟨if_neg h, if_neg h, if_neg h, fun _ => if_neg h⟩
/-- Three directions of length 1 that stand at right angles: by rows, and by columns. -/
structure Orth (e11 e12 e13 e21 e22 e23 e31 e32 e33 : Rat) : Prop where
  r11 : e11 * e11 + e12 * e12 + e13 * e13 = 1
  r12 : e11 * e21 + e12 * e22 + e13 * e23 = 0
  r13 : e11 * e31 + e12 * e32 + e13 * e33 = 0
  r21 : e21 * e11 + e22 * e12 + e23 * e13 = 0
  r22 : e21 * e21 + e22 * e22 + e23 * e23 = 1
  r23 : e21 * e31 + e22 * e32 + e23 * e33 = 0
  r31 : e31 * e11 + e32 * e12 + e33 * e13 = 0
  r32 : e31 * e21 + e32 * e22 + e33 * e23 = 0
  r33 : e31 * e31 + e32 * e32 + e33 * e33 = 1
  c11 : e11 * e11 + e21 * e21 + e31 * e31 = 1
  c12 : e11 * e12 + e21 * e22 + e31 * e32 = 0
  c13 : e11 * e13 + e21 * e23 + e31 * e33 = 0
  c21 : e12 * e11 + e22 * e21 + e32 * e31 = 0
  c22 : e12 * e12 + e22 * e22 + e32 * e32 = 1
  c23 : e12 * e13 + e22 * e23 + e32 * e33 = 0
  c31 : e13 * e11 + e23 * e21 + e33 * e31 = 0
  c32 : e13 * e12 + e23 * e22 + e33 * e32 = 0
  c33 : e13 * e13 + e23 * e23 + e33 * e33 = 1
theorem fr_orth {n1 n2 n3 : Rat} (h : n1 * n1 + n2 * n2 + n3 * n3 = 1) : Orth (fr11 n1 n2 n3) (fr12 n1 n2 n3) (frn n1 n2 n3 n1) (fr12 n1 n2 n3) (fr22 n1 n2 n3) (frn n1 n2 n3 n2) (frn n1 n2 n3 n1) (frn n1 n2 n3 n2) (frn n1 n2 n3 n3) := by
  obtain ⟨h1, h2, h3, h4⟩ := fr_yes h
  rw [h1, h2, h3, h4, h4, h4]
  rcases hh_cases h with ⟨rfl, rfl, rfl⟩ | ⟨h5, hs⟩
  · constructor <;> decide +kernel
  · generalize 1 / (1 - n3) = s at *
    clear h1 h2 h3 h4
    constructor <;> grind
def sFMir : Spec := spN 37 fun l => match l with
  | [([d1, d2, d3], K), ([w1, w2, w3], L)] => some (⟨.inl (cn [d1 - 2 * (d1 * w1 + d2 * w2 + d3 * w3) / (w1 * w1 + w2 * w2 + w3 * w3) * w1, d2 - 2 * (d1 * w1 + d2 * w2 + d3 * w3) / (w1 * w1 + w2 * w2 + w3 * w3) * w2, d3 - 2 * (d1 * w1 + d2 * w2 + d3 * w3) / (w1 * w1 + w2 * w2 + w3 * w3) * w3] (7 * K + 13 * L + 30))⟩, 1 ≤ K ∧ 1 ≤ L ∧ 100 * max K L + 100 ≤ 1073741824)
  | _ => none
set_option maxHeartbeats 8000000 in
theorem sFMir_ok : SpecOk Try.prog sFMir := SpecOk.mk' Try.func37 (by kernel_rfl) (by kernel_rfl) (spN_at fun l r p h hp => by
  split at h
  · rename_i d1 d2 d3 K w1 w2 w3 L
    cases h
    have i0 : ((0 : Int) : Rat) / ((1 : Int) : Rat) = 0 := by decide +kernel
    have i1 : ((1 : Int) : Rat) / ((1 : Int) : Rat) = 1 := by decide +kernel
    have i2 : ((2 : Int) : Rat) / ((1 : Int) : Rat) = 2 := by decide +kernel
    by_cases hz : w1 * w1 + w2 * w2 + w3 * w3 = 0
    · refine At.ok (fuel := 60) (hs := [false]) S3_ok Try.func37 (by kernel_rfl) ?_
      simp only [Try.f37, S3, s5Null, S2, sVSum, S1, sVOf, sVRead, sVSub, sVScale, sVDot, s5Of, s5Zero, s5Read, s5Add, s5Sub, s5Scale, s5Dot, s5Is, S0, i0, i1, i2, hz, decide_eq_true_eq, decide_eq_false_iff_not, ne_eq, not_true_eq_false, not_false_eq_true, Decidable.not_not, beq_iff_eq, beq_eq_false_iff_ne, bne_eq_false_iff_eq, bne_iff_ne, qsgn_zero, exF, exC, exR, run, step, wantO, want, ev, look, rdO, app, putT, TT.at, tt0, find, args, head, wantA, avOf, bxOf, nwOf, ptOf, ldOf, touch, reads, rdsOf, wfind, putW, mid, cut, lsize, Lf.size, lay, fillA, rowA, cmpI, eqB, sized, tell, tellB, tellL, chk1, chk2, noPt, noNw, allPuts, resA, resA1, oneOf, av1, mkR, cn, agR, rats, ratsL, ratsAll, rowR, sp1, sp2, spL, spOf, spIs, sp0, spN, spC, ratsC, ratsCs, rowV, rowVL, sumL, prodL, plain, undef, BV.into, BV.free, AV.free, OkRun, ALe, BLe, BsLe, LLe, LfLe, List.map, List.length_cons, List.length_nil, List.replicate, List.append_eq, List.cons_append, List.nil_append, List.append_nil, Nat.reduceAdd, Nat.reduceSub, Nat.reduceMul, Int.reduceAdd, Int.reduceSub, Int.reduceToNat, Int.toNat_zero, Int.toNat_one, Nat.beq, Nat.ble, Nat.beq_refl, List.getElem?_cons_zero, List.getElem?_cons_succ, List.getElem?_nil, List.set, List.all, Bool.and_true, Bool.true_and, Bool.and_self, Bool.not_true, Bool.not_false, List.flatten, List.foldl, List.take, List.drop, Nat.max_self, true_and, and_true, and_self, true_implies, implies_true, forall_const]
      and_intros
      all_goals first | omega | (first | rfl | grind)
    · refine At.ok (fuel := 60) (hs := [true]) S3_ok Try.func37 (by kernel_rfl) ?_
      simp only [Try.f37, S3, s5Null, S2, sVSum, S1, sVOf, sVRead, sVSub, sVScale, sVDot, s5Of, s5Zero, s5Read, s5Add, s5Sub, s5Scale, s5Dot, s5Is, S0, i0, i1, i2, hz, decide_eq_true_eq, decide_eq_false_iff_not, ne_eq, not_true_eq_false, not_false_eq_true, Decidable.not_not, beq_iff_eq, beq_eq_false_iff_ne, bne_eq_false_iff_eq, bne_iff_ne, qsgn_zero, exF, exC, exR, run, step, wantO, want, ev, look, rdO, app, putT, TT.at, tt0, find, args, head, wantA, avOf, bxOf, nwOf, ptOf, ldOf, touch, reads, rdsOf, wfind, putW, mid, cut, lsize, Lf.size, lay, fillA, rowA, cmpI, eqB, sized, tell, tellB, tellL, chk1, chk2, noPt, noNw, allPuts, resA, resA1, oneOf, av1, mkR, cn, agR, rats, ratsL, ratsAll, rowR, sp1, sp2, spL, spOf, spIs, sp0, spN, spC, ratsC, ratsCs, rowV, rowVL, sumL, prodL, plain, undef, BV.into, BV.free, AV.free, OkRun, ALe, BLe, BsLe, LLe, LfLe, List.map, List.length_cons, List.length_nil, List.replicate, List.append_eq, List.cons_append, List.nil_append, List.append_nil, Nat.reduceAdd, Nat.reduceSub, Nat.reduceMul, Int.reduceAdd, Int.reduceSub, Int.reduceToNat, Int.toNat_zero, Int.toNat_one, Nat.beq, Nat.ble, Nat.beq_refl, List.getElem?_cons_zero, List.getElem?_cons_succ, List.getElem?_nil, List.set, List.all, Bool.and_true, Bool.true_and, Bool.and_self, Bool.not_true, Bool.not_false, List.flatten, List.foldl, List.take, List.drop, Nat.max_self, true_and, and_true, and_self, true_implies, implies_true, forall_const]
      and_intros
      all_goals first | omega | (first | rfl | grind)
  · cases h)
def sFIn : Spec := spN 15 fun l => match l with
  | [([e11, e12, e13, e21, e22, e23, e31, e32, e33], K), ([d1, d2, d3], L)] => some (⟨.inl (cn [d1 * e11 + d2 * e12 + d3 * e13, d1 * e21 + d2 * e22 + d3 * e23, d1 * e31 + d2 * e32 + d3 * e33] (3 * (K + L) + 2))⟩, 1 ≤ K ∧ 1 ≤ L ∧ 8 * max K L + 8 ≤ 1073741824)
  | _ => none
set_option maxHeartbeats 8000000 in
theorem sFIn_ok : SpecOk Try.prog sFIn := SpecOk.mk' Try.func15 (by kernel_rfl) (by kernel_rfl) (spN_at fun l r p h hp => by
  split at h
  · cases h
    refine At.ok (fuel := 60) (hs := []) S3_ok Try.func15 (by kernel_rfl) ?_
    simp only [Try.f15, S3, s5Null, S2, sVSum, S1, sVOf, sVRead, sVSub, sVScale, sVDot, s5Of, s5Zero, s5Read, s5Add, s5Sub, s5Scale, s5Dot, s5Is, S0, exF, exC, exR, run, step, wantO, want, ev, look, rdO, app, putT, TT.at, tt0, find, args, head, wantA, avOf, bxOf, nwOf, ptOf, ldOf, touch, reads, rdsOf, wfind, putW, mid, cut, lsize, Lf.size, lay, fillA, rowA, cmpI, eqB, sized, tell, tellB, tellL, chk1, chk2, noPt, noNw, allPuts, resA, resA1, oneOf, av1, mkR, cn, agR, rats, ratsL, ratsAll, rowR, sp1, sp2, spL, spOf, spIs, sp0, spN, spC, ratsC, ratsCs, rowV, rowVL, sumL, prodL, plain, undef, BV.into, BV.free, AV.free, OkRun, ALe, BLe, BsLe, LLe, LfLe, List.map, List.length_cons, List.length_nil, List.replicate, List.append_eq, List.cons_append, List.nil_append, List.append_nil, Nat.reduceAdd, Nat.reduceSub, Nat.reduceMul, Int.reduceAdd, Int.reduceSub, Int.reduceToNat, Int.toNat_zero, Int.toNat_one, Nat.beq, Nat.ble, Nat.beq_refl, List.getElem?_cons_zero, List.getElem?_cons_succ, List.getElem?_nil, List.set, List.all, Bool.and_true, Bool.true_and, Bool.and_self, Bool.not_true, Bool.not_false, List.flatten, List.foldl, List.take, List.drop, Nat.max_self, true_and, and_true, and_self, true_implies, implies_true, forall_const]
    omega
  · cases h)
def sFOut : Spec := spN 17 fun l => match l with
  | [([e11, e12, e13, e21, e22, e23, e31, e32, e33], K), ([d1, d2, d3], L)] => some (⟨.inl (cn [d1 * e11 + d2 * e21 + d3 * e31, d1 * e12 + d2 * e22 + d3 * e32, d1 * e13 + d2 * e23 + d3 * e33] (3 * (K + L) + 2))⟩, 1 ≤ K ∧ 1 ≤ L ∧ 8 * max K L + 8 ≤ 4294967296)
  | _ => none
set_option maxHeartbeats 8000000 in
theorem sFOut_ok : SpecOk Try.prog sFOut := SpecOk.mk' Try.func17 (by kernel_rfl) (by kernel_rfl) (spN_at fun l r p h hp => by
  split at h
  · rename_i e11 e12 e13 e21 e22 e23 e31 e32 e33 K d1 d2 d3 L
    cases h
    refine At.okT (fuel := 60) (hs := []) S3_ok Try.func17 (by kernel_rfl) ?_
    simp only [Try.f17, S3, s5Null, S2, sVSum, S1, sVOf, sVRead, sVSub, sVScale, sVDot, s5Of, s5Zero, s5Read, s5Add, s5Sub, s5Scale, s5Dot, s5Is, S0, OkRunT, ATg, BT, BsT, LT, LfT, bvsB, bvB, lsB, lfB, exF, exC, exR, run, step, wantO, want, ev, look, rdO, app, putT, TT.at, tt0, find, args, head, wantA, avOf, bxOf, nwOf, ptOf, ldOf, touch, reads, rdsOf, wfind, putW, mid, cut, lsize, Lf.size, lay, fillA, rowA, cmpI, eqB, sized, tell, tellB, tellL, chk1, chk2, noPt, noNw, allPuts, resA, resA1, oneOf, av1, mkR, cn, agR, rats, ratsL, ratsAll, rowR, sp1, sp2, spL, spOf, spIs, sp0, spN, spC, ratsC, ratsCs, rowV, rowVL, sumL, prodL, plain, undef, BV.into, BV.free, AV.free, OkRun, ALe, BLe, BsLe, LLe, LfLe, List.map, List.length_cons, List.length_nil, List.replicate, List.append_eq, List.cons_append, List.nil_append, List.append_nil, Nat.reduceAdd, Nat.reduceSub, Nat.reduceMul, Int.reduceAdd, Int.reduceSub, Int.reduceToNat, Int.toNat_zero, Int.toNat_one, Nat.beq, Nat.ble, Nat.beq_refl, List.getElem?_cons_zero, List.getElem?_cons_succ, List.getElem?_nil, List.set, List.all, Bool.and_true, Bool.true_and, Bool.and_self, Bool.not_true, Bool.not_false, List.flatten, List.foldl, List.take, List.drop, Nat.max_self, true_and, and_true, and_self, true_implies, implies_true, forall_const]
    rintro ⟨⟨d_e11, d_e12, d_e13, d_e21, d_e22, d_e23, d_e31, d_e32, d_e33⟩, ⟨d_d1, d_d2, d_d3⟩⟩
    replace d_e11 := d_e11 (by omega)
    replace d_e12 := d_e12 (by omega)
    replace d_e13 := d_e13 (by omega)
    replace d_e21 := d_e21 (by omega)
    replace d_e22 := d_e22 (by omega)
    replace d_e23 := d_e23 (by omega)
    replace d_e31 := d_e31 (by omega)
    replace d_e32 := d_e32 (by omega)
    replace d_e33 := d_e33 (by omega)
    replace d_d1 := d_d1 (by omega)
    replace d_d2 := d_d2 (by omega)
    replace d_d3 := d_d3 (by omega)
    and_intros
    all_goals first | omega | (refine Bd.mono (by repeat' (with_reducible first | apply Bd.add | apply Bd.sub | apply Bd.mul | apply Bd.div | apply Bd.neg | apply Bd.ite | exact Bd.zero | exact Bd.one | exact Bd.two | assumption)) ?_; omega) | (first | rfl | grind)
  · cases h)
def s6In : Spec := spN 16 fun l => match l with
  | [([e11, e12, e13, e21, e22, e23, e31, e32, e33], K), ([d1, d2, d3], L)] => some (⟨.inl (cn [d1 * e11 + d2 * e12 + d3 * e13, d1 * e21 + d2 * e22 + d3 * e23, d1 * e31 + d2 * e32 + d3 * e33] (3 * (K + L) + 2))⟩, 1 ≤ K ∧ 1 ≤ L ∧ 8 * max K L + 8 ≤ 17179869184)
  | _ => none
set_option maxHeartbeats 8000000 in
theorem s6In_ok : SpecOk Try.prog s6In := SpecOk.mk' Try.func16 (by kernel_rfl) (by kernel_rfl) (spN_at fun l r p h hp => by
  split at h
  · cases h
    refine At.ok (fuel := 60) (hs := []) S3_ok Try.func16 (by kernel_rfl) ?_
    simp only [Try.f16, S3, s5Null, S2, sVSum, S1, sVOf, sVRead, sVSub, sVScale, sVDot, s5Of, s5Zero, s5Read, s5Add, s5Sub, s5Scale, s5Dot, s5Is, S0, exF, exC, exR, run, step, wantO, want, ev, look, rdO, app, putT, TT.at, tt0, find, args, head, wantA, avOf, bxOf, nwOf, ptOf, ldOf, touch, reads, rdsOf, wfind, putW, mid, cut, lsize, Lf.size, lay, fillA, rowA, cmpI, eqB, sized, tell, tellB, tellL, chk1, chk2, noPt, noNw, allPuts, resA, resA1, oneOf, av1, mkR, cn, agR, rats, ratsL, ratsAll, rowR, sp1, sp2, spL, spOf, spIs, sp0, spN, spC, ratsC, ratsCs, rowV, rowVL, sumL, prodL, plain, undef, BV.into, BV.free, AV.free, OkRun, ALe, BLe, BsLe, LLe, LfLe, List.map, List.length_cons, List.length_nil, List.replicate, List.append_eq, List.cons_append, List.nil_append, List.append_nil, Nat.reduceAdd, Nat.reduceSub, Nat.reduceMul, Int.reduceAdd, Int.reduceSub, Int.reduceToNat, Int.toNat_zero, Int.toNat_one, Nat.beq, Nat.ble, Nat.beq_refl, List.getElem?_cons_zero, List.getElem?_cons_succ, List.getElem?_nil, List.set, List.all, Bool.and_true, Bool.true_and, Bool.and_self, Bool.not_true, Bool.not_false, List.flatten, List.foldl, List.take, List.drop, Nat.max_self, true_and, and_true, and_self, true_implies, implies_true, forall_const]
    omega
  · cases h)
def s6Out : Spec := spN 18 fun l => match l with
  | [([e11, e12, e13, e21, e22, e23, e31, e32, e33], K), ([d1, d2, d3], L)] => some (⟨.inl (cn [d1 * e11 + d2 * e21 + d3 * e31, d1 * e12 + d2 * e22 + d3 * e32, d1 * e13 + d2 * e23 + d3 * e33] (3 * (K + L) + 2))⟩, 1 ≤ K ∧ 1 ≤ L ∧ 8 * max K L + 8 ≤ 17179869184)
  | _ => none
set_option maxHeartbeats 8000000 in
theorem s6Out_ok : SpecOk Try.prog s6Out := SpecOk.mk' Try.func18 (by kernel_rfl) (by kernel_rfl) (spN_at fun l r p h hp => by
  split at h
  · cases h
    refine At.ok (fuel := 60) (hs := []) S3_ok Try.func18 (by kernel_rfl) ?_
    simp only [Try.f18, S3, s5Null, S2, sVSum, S1, sVOf, sVRead, sVSub, sVScale, sVDot, s5Of, s5Zero, s5Read, s5Add, s5Sub, s5Scale, s5Dot, s5Is, S0, exF, exC, exR, run, step, wantO, want, ev, look, rdO, app, putT, TT.at, tt0, find, args, head, wantA, avOf, bxOf, nwOf, ptOf, ldOf, touch, reads, rdsOf, wfind, putW, mid, cut, lsize, Lf.size, lay, fillA, rowA, cmpI, eqB, sized, tell, tellB, tellL, chk1, chk2, noPt, noNw, allPuts, resA, resA1, oneOf, av1, mkR, cn, agR, rats, ratsL, ratsAll, rowR, sp1, sp2, spL, spOf, spIs, sp0, spN, spC, ratsC, ratsCs, rowV, rowVL, sumL, prodL, plain, undef, BV.into, BV.free, AV.free, OkRun, ALe, BLe, BsLe, LLe, LfLe, List.map, List.length_cons, List.length_nil, List.replicate, List.append_eq, List.cons_append, List.nil_append, List.append_nil, Nat.reduceAdd, Nat.reduceSub, Nat.reduceMul, Int.reduceAdd, Int.reduceSub, Int.reduceToNat, Int.toNat_zero, Int.toNat_one, Nat.beq, Nat.ble, Nat.beq_refl, List.getElem?_cons_zero, List.getElem?_cons_succ, List.getElem?_nil, List.set, List.all, Bool.and_true, Bool.true_and, Bool.and_self, Bool.not_true, Bool.not_false, List.flatten, List.foldl, List.take, List.drop, Nat.max_self, true_and, and_true, and_self, true_implies, implies_true, forall_const]
    omega
  · cases h)
def s6Is : Spec := spC 11 fun l => match l with
  | [([a11, a12, a13, a21, a22, a23, a31, a32, a33], K), ([b11, b12, b13, b21, b22, b23, b31, b32, b33], L)] => some (⟨.inl ⟨some (.inl (.bool (decide ((a11 = b11 ∧ a12 = b12 ∧ a13 = b13) ∧ (a21 = b21 ∧ a22 = b22 ∧ a23 = b23) ∧ (a31 = b31 ∧ a32 = b32 ∧ a33 = b33)))))⟩⟩, K ≤ 1099511627776 ∧ L ≤ 1099511627776)
  | _ => none
set_option maxHeartbeats 8000000 in
theorem s6Is_ok : SpecOk Try.prog s6Is := SpecOk.mk' Try.func11 (by kernel_rfl) (by kernel_rfl) (spC_at fun l r p h hp => by
  split at h
  · rename_i a11 a12 a13 a21 a22 a23 a31 a32 a33 K b11 b12 b13 b21 b22 b23 b31 b32 b33 L
    cases h
    have i0 : ((0 : Int) : Rat) / ((1 : Int) : Rat) = 0 := by decide +kernel
    have i1 : ((1 : Int) : Rat) / ((1 : Int) : Rat) = 1 := by decide +kernel
    have i2 : ((2 : Int) : Rat) / ((1 : Int) : Rat) = 2 := by decide +kernel
    by_cases h0 : a11 = b11 ∧ a12 = b12 ∧ a13 = b13
    rotate_left
    · rw [show decide ((a11 = b11 ∧ a12 = b12 ∧ a13 = b13) ∧ (a21 = b21 ∧ a22 = b22 ∧ a23 = b23) ∧ (a31 = b31 ∧ a32 = b32 ∧ a33 = b33)) = false from by simp only [eq_false h0, and_false, false_and]; rfl]
      refine At.ok (fuel := 60) (hs := [false]) S3_ok Try.func11 (by kernel_rfl) ?_
      simp only [Try.f11, S3, s5Null, S2, sVSum, S1, sVOf, sVRead, sVSub, sVScale, sVDot, s5Of, s5Zero, s5Read, s5Add, s5Sub, s5Scale, s5Dot, s5Is, S0, decide_eq_true_eq, decide_eq_false_iff_not, ne_eq, not_true_eq_false, not_false_eq_true, Decidable.not_not, beq_iff_eq, beq_eq_false_iff_ne, bne_eq_false_iff_eq, bne_iff_ne, qsgn_zero, eq_false h0, and_false, false_and, exF, exC, exR, run, step, wantO, want, ev, look, rdO, app, putT, TT.at, tt0, find, args, head, wantA, avOf, bxOf, nwOf, ptOf, ldOf, touch, reads, rdsOf, wfind, putW, mid, cut, lsize, Lf.size, lay, fillA, rowA, cmpI, eqB, sized, tell, tellB, tellL, chk1, chk2, noPt, noNw, allPuts, resA, resA1, oneOf, av1, mkR, cn, agR, rats, ratsL, ratsAll, rowR, sp1, sp2, spL, spOf, spIs, sp0, spN, spC, ratsC, ratsCs, rowV, rowVL, sumL, prodL, plain, undef, BV.into, BV.free, AV.free, OkRun, ALe, BLe, BsLe, LLe, LfLe, List.map, List.length_cons, List.length_nil, List.replicate, List.append_eq, List.cons_append, List.nil_append, List.append_nil, Nat.reduceAdd, Nat.reduceSub, Nat.reduceMul, Int.reduceAdd, Int.reduceSub, Int.reduceToNat, Int.toNat_zero, Int.toNat_one, Nat.beq, Nat.ble, Nat.beq_refl, List.getElem?_cons_zero, List.getElem?_cons_succ, List.getElem?_nil, List.set, List.all, Bool.and_true, Bool.true_and, Bool.and_self, Bool.not_true, Bool.not_false, List.flatten, List.foldl, List.take, List.drop, Nat.max_self, true_and, and_true, and_self, true_implies, implies_true, forall_const]
      and_intros
      all_goals first | omega | (first | rfl | grind)
    by_cases h1 : a21 = b21 ∧ a22 = b22 ∧ a23 = b23
    rotate_left
    · rw [show decide ((a11 = b11 ∧ a12 = b12 ∧ a13 = b13) ∧ (a21 = b21 ∧ a22 = b22 ∧ a23 = b23) ∧ (a31 = b31 ∧ a32 = b32 ∧ a33 = b33)) = false from by simp only [eq_false h1, eq_true h0, and_false, false_and]; rfl]
      refine At.ok (fuel := 60) (hs := [true, false]) S3_ok Try.func11 (by kernel_rfl) ?_
      simp only [Try.f11, S3, s5Null, S2, sVSum, S1, sVOf, sVRead, sVSub, sVScale, sVDot, s5Of, s5Zero, s5Read, s5Add, s5Sub, s5Scale, s5Dot, s5Is, S0, decide_eq_true_eq, decide_eq_false_iff_not, ne_eq, not_true_eq_false, not_false_eq_true, Decidable.not_not, beq_iff_eq, beq_eq_false_iff_ne, bne_eq_false_iff_eq, bne_iff_ne, qsgn_zero, eq_false h1, eq_true h0, and_false, false_and, exF, exC, exR, run, step, wantO, want, ev, look, rdO, app, putT, TT.at, tt0, find, args, head, wantA, avOf, bxOf, nwOf, ptOf, ldOf, touch, reads, rdsOf, wfind, putW, mid, cut, lsize, Lf.size, lay, fillA, rowA, cmpI, eqB, sized, tell, tellB, tellL, chk1, chk2, noPt, noNw, allPuts, resA, resA1, oneOf, av1, mkR, cn, agR, rats, ratsL, ratsAll, rowR, sp1, sp2, spL, spOf, spIs, sp0, spN, spC, ratsC, ratsCs, rowV, rowVL, sumL, prodL, plain, undef, BV.into, BV.free, AV.free, OkRun, ALe, BLe, BsLe, LLe, LfLe, List.map, List.length_cons, List.length_nil, List.replicate, List.append_eq, List.cons_append, List.nil_append, List.append_nil, Nat.reduceAdd, Nat.reduceSub, Nat.reduceMul, Int.reduceAdd, Int.reduceSub, Int.reduceToNat, Int.toNat_zero, Int.toNat_one, Nat.beq, Nat.ble, Nat.beq_refl, List.getElem?_cons_zero, List.getElem?_cons_succ, List.getElem?_nil, List.set, List.all, Bool.and_true, Bool.true_and, Bool.and_self, Bool.not_true, Bool.not_false, List.flatten, List.foldl, List.take, List.drop, Nat.max_self, true_and, and_true, and_self, true_implies, implies_true, forall_const]
      and_intros
      all_goals first | omega | (first | rfl | grind)
    by_cases h2 : a31 = b31 ∧ a32 = b32 ∧ a33 = b33
    · rw [show decide ((a11 = b11 ∧ a12 = b12 ∧ a13 = b13) ∧ (a21 = b21 ∧ a22 = b22 ∧ a23 = b23) ∧ (a31 = b31 ∧ a32 = b32 ∧ a33 = b33)) = true from by simp only [eq_true h0, eq_true h1, eq_true h2, and_true]; rfl]
      refine At.ok (fuel := 60) (hs := [true, true, true]) S3_ok Try.func11 (by kernel_rfl) ?_
      simp only [Try.f11, S3, s5Null, S2, sVSum, S1, sVOf, sVRead, sVSub, sVScale, sVDot, s5Of, s5Zero, s5Read, s5Add, s5Sub, s5Scale, s5Dot, s5Is, S0, decide_eq_true_eq, decide_eq_false_iff_not, ne_eq, not_true_eq_false, not_false_eq_true, Decidable.not_not, beq_iff_eq, beq_eq_false_iff_ne, bne_eq_false_iff_eq, bne_iff_ne, qsgn_zero, eq_true h0, eq_true h1, eq_true h2, and_true, exF, exC, exR, run, step, wantO, want, ev, look, rdO, app, putT, TT.at, tt0, find, args, head, wantA, avOf, bxOf, nwOf, ptOf, ldOf, touch, reads, rdsOf, wfind, putW, mid, cut, lsize, Lf.size, lay, fillA, rowA, cmpI, eqB, sized, tell, tellB, tellL, chk1, chk2, noPt, noNw, allPuts, resA, resA1, oneOf, av1, mkR, cn, agR, rats, ratsL, ratsAll, rowR, sp1, sp2, spL, spOf, spIs, sp0, spN, spC, ratsC, ratsCs, rowV, rowVL, sumL, prodL, plain, undef, BV.into, BV.free, AV.free, OkRun, ALe, BLe, BsLe, LLe, LfLe, List.map, List.length_cons, List.length_nil, List.replicate, List.append_eq, List.cons_append, List.nil_append, List.append_nil, Nat.reduceAdd, Nat.reduceSub, Nat.reduceMul, Int.reduceAdd, Int.reduceSub, Int.reduceToNat, Int.toNat_zero, Int.toNat_one, Nat.beq, Nat.ble, Nat.beq_refl, List.getElem?_cons_zero, List.getElem?_cons_succ, List.getElem?_nil, List.set, List.all, Bool.and_true, Bool.true_and, Bool.and_self, Bool.not_true, Bool.not_false, List.flatten, List.foldl, List.take, List.drop, Nat.max_self, true_and, and_true, and_self, true_implies, implies_true, forall_const]
      and_intros
      all_goals first | omega | (first | rfl | grind)
    · rw [show decide ((a11 = b11 ∧ a12 = b12 ∧ a13 = b13) ∧ (a21 = b21 ∧ a22 = b22 ∧ a23 = b23) ∧ (a31 = b31 ∧ a32 = b32 ∧ a33 = b33)) = false from by simp only [eq_false h2, eq_true h0, eq_true h1, and_false, false_and]; rfl]
      refine At.ok (fuel := 60) (hs := [true, true, false]) S3_ok Try.func11 (by kernel_rfl) ?_
      simp only [Try.f11, S3, s5Null, S2, sVSum, S1, sVOf, sVRead, sVSub, sVScale, sVDot, s5Of, s5Zero, s5Read, s5Add, s5Sub, s5Scale, s5Dot, s5Is, S0, decide_eq_true_eq, decide_eq_false_iff_not, ne_eq, not_true_eq_false, not_false_eq_true, Decidable.not_not, beq_iff_eq, beq_eq_false_iff_ne, bne_eq_false_iff_eq, bne_iff_ne, qsgn_zero, eq_false h2, eq_true h0, eq_true h1, and_false, false_and, exF, exC, exR, run, step, wantO, want, ev, look, rdO, app, putT, TT.at, tt0, find, args, head, wantA, avOf, bxOf, nwOf, ptOf, ldOf, touch, reads, rdsOf, wfind, putW, mid, cut, lsize, Lf.size, lay, fillA, rowA, cmpI, eqB, sized, tell, tellB, tellL, chk1, chk2, noPt, noNw, allPuts, resA, resA1, oneOf, av1, mkR, cn, agR, rats, ratsL, ratsAll, rowR, sp1, sp2, spL, spOf, spIs, sp0, spN, spC, ratsC, ratsCs, rowV, rowVL, sumL, prodL, plain, undef, BV.into, BV.free, AV.free, OkRun, ALe, BLe, BsLe, LLe, LfLe, List.map, List.length_cons, List.length_nil, List.replicate, List.append_eq, List.cons_append, List.nil_append, List.append_nil, Nat.reduceAdd, Nat.reduceSub, Nat.reduceMul, Int.reduceAdd, Int.reduceSub, Int.reduceToNat, Int.toNat_zero, Int.toNat_one, Nat.beq, Nat.ble, Nat.beq_refl, List.getElem?_cons_zero, List.getElem?_cons_succ, List.getElem?_nil, List.set, List.all, Bool.and_true, Bool.true_and, Bool.and_self, Bool.not_true, Bool.not_false, List.flatten, List.foldl, List.take, List.drop, Nat.max_self, true_and, and_true, and_self, true_implies, implies_true, forall_const]
      and_intros
      all_goals first | omega | (first | rfl | grind)
  · cases h)
def S4 : List Spec := sFMir :: sFIn :: sFOut :: s6In :: s6Out :: s6Is :: S3
theorem S4_ok : AllOk Try.prog S4 := ⟨sFMir_ok, sFIn_ok, sFOut_ok, s6In_ok, s6Out_ok, s6Is_ok, S3_ok⟩
end Go.Proofs.Ytjjebiihoibpmaa.Sym
