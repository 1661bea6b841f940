/- penumbralaw10.BoxesHold: its loop. -/
import Derived.Test.YtbobhhnhlgdkiaaJU
namespace Go.Proofs.Ytbobhhnhlgdkiaa.Sy
open Go Go.RowKit M Kahn
set_option maxRecDepth 1000000
set_option linter.unusedSimpArgs false
set_option linter.unusedVariables false

/-- Is a number of one of the first i points so? -/
def anyX (f : V3 → Rat) (q : Rat) (l : List V3) (i : Nat) : Bool := decide (l = []) || (l.take i).any fun v => decide (f v = q)
theorem anyX_next {f : V3 → Rat} {q : Rat} {l : List V3} {i : Nat} {x : V3} (h : l[i]? = some x) : anyX f q l (i + 1) = (anyX f q l i || decide (f x = q)) := by
  unfold anyX
  rw [List.take_add_one, h, List.any_append, ← Bool.or_assoc]
  simp
theorem anyX_zero {f : V3 → Rat} {q : Rat} {l : List V3} : anyX f q l 0 = decide (l = []) := by unfold anyX; simp
theorem anyX_yes {f : V3 → Rat} {q : Rat} {l : List V3} {v : V3} (hv : v ∈ l) (h : f v = q) : anyX f q l l.length = true := by
  unfold anyX
  rw [List.take_length, Bool.or_eq_true]
  exact .inr (List.any_eq_true.2 ⟨v, hv, decide_eq_true h⟩)
theorem hold_join {l : List V3} (p : V3) (h : l ≠ []) : jns [jns (l.map dbl), jns ((l ++ [p]).map dbl)] = jns ((l ++ [p]).map dbl) := by
  rw [List.map_append, List.map_cons, List.map_nil, jns_snoc (by simpa using h)]
  show jn (jn _ _) _ = _
  rw [jn_self, jn_jn]
def bhI (K : Nat) (p1 p2 p3 : Rat) (B C : B6) (l : List V3) (i : Nat) : St := ⟨tmOf 94 [(0, .slice (l.map (eG encV K)) []), (3, .held (.inr (.inr (.inr (.inl (0, 0)))))), (5, .held (.inr (.inr (.inr (.inl (1, 0)))))), (6, .held (.inr (.inr (.inr (.inl (2, 0)))))), (7, .held (.inr (.inl (.bool ((anyX (fun v => v.1) B.1.1 l (i))))))), (8, .held (.inr (.inl (.bool ((anyX (fun v => v.2.2) B.2.2.2 l (i))))))), (9, .held (.inr (.inl (.int .i64 (i : Int)))))], [⟨30, [.held (.inl (p1, K, false)), .held (.inl (p2, K, false)), .held (.inl (p3, K, false))], none⟩, ⟨32, [.held (.inl (B.1.1, K, true)), .held (.inl (B.1.2.1, K, true)), .held (.inl (B.1.2.2, K, true)), .held (.inl (B.2.1, K, true)), .held (.inl (B.2.2.1, K, true)), .held (.inl (B.2.2.2, K, true))], none⟩, ⟨32, [.held (.inl (C.1.1, K, true)), .held (.inl (C.1.2.1, K, true)), .held (.inl (C.1.2.2, K, true)), .held (.inl (C.2.1, K, true)), .held (.inl (C.2.2.1, K, true)), .held (.inl (C.2.2.2, K, true))], none⟩]⟩
def bhO (K : Nat) (p1 p2 p3 : Rat) (B C : B6) (l : List V3) (i : Nat) : Exit × St := (.exit 0, ⟨tmOf 94 [(0, .slice (l.map (eG encV K)) []), (3, .held (.inr (.inr (.inr (.inl (0, 0)))))), (5, .held (.inr (.inr (.inr (.inl (1, 0)))))), (6, .held (.inr (.inr (.inr (.inl (2, 0)))))), (7, .held (.inr (.inl (.bool ((anyX (fun v => v.1) B.1.1 l (l.length))))))), (8, .held (.inr (.inl (.bool ((anyX (fun v => v.2.2) B.2.2.2 l (l.length))))))), (9, .held (.inr (.inl (.int .i64 (l.length : Int)))))], [⟨30, [.held (.inl (p1, K, false)), .held (.inl (p2, K, false)), .held (.inl (p3, K, false))], none⟩, ⟨32, [.held (.inl (B.1.1, K, true)), .held (.inl (B.1.2.1, K, true)), .held (.inl (B.1.2.2, K, true)), .held (.inl (B.2.1, K, true)), .held (.inl (B.2.2.1, K, true)), .held (.inl (B.2.2.2, K, true))], none⟩, ⟨32, [.held (.inl (C.1.1, K, true)), .held (.inl (C.1.2.1, K, true)), .held (.inl (C.1.2.2, K, true)), .held (.inl (C.2.1, K, true)), .held (.inl (C.2.2.1, K, true)), .held (.inl (C.2.2.2, K, true))], none⟩]⟩)
set_option maxHeartbeats 16000000 in
theorem bh_loop (K : Nat) (p1 p2 p3 : Rat) (B C : B6) (l : List V3) (K1 : 1 ≤ K) (hK : K ≤ 1048576) (hl : l.length ≤ K) (hB : ∀ v ∈ l, inB B v = true) (hC : ∀ v ∈ l, inB C v = true) : LoopsOk Try.f5 2 (lsp 0 [0, 3, 5, 6, 7, 8, 9] (bhI K p1 p2 p3 B C l (0)) (bhO K p1 p2 p3 B C l (0)) :: []) := by
  refine LoopsOk.count S2d_ok (by kernel_rfl) LoopsOk.nil 0 (by kernel_rfl) [0, 3, 5, 6, 7, 8, 9] (0) (l.length) (bhI K p1 p2 p3 B C l) (fun i => by rw [bhI, tmOf_len]; kernel_rfl) (bhO K p1 p2 p3 B C l) (fun i => by unfold bhO; (repeat' split) <;> rw [tmOf_len] <;> kernel_rfl) (by omega) ?_
  intro b' c' hb' hc' i h1 h2
  simp only [Try.f5, Option.some.injEq] at hb'
  subst hb'
  simp only [blocksOf, getBlk, Nat.beq, List.cons_append, List.nil_append, Option.some.injEq, Code.loop.injEq] at hc'
  subst hc'
  have hn : ((i : Int)).toNat = i := Int.toNat_natCast i
  by_cases h : i < l.length
  · have hw : IntKind.i64.wrap ((i : Int) + 1) = ((i + 1 : Nat) : Int) := by rw [IntKind.wrap_i64]; omega
    obtain ⟨x, hx⟩ : ∃ x, l[i]? = some x := ⟨_, List.getElem?_eq_getElem h⟩
    have hm := List.mem_of_getElem? hx
    have hv : (l.map (eG encV K))[i]? = some (.agg [.held (.inl (x.1, K, false)), .held (.inl (x.2.1, K, false)), .held (.inl (x.2.2, K, false))]) := by rw [List.getElem?_map, hx]; rfl
    have hz : sized 9 (l.map (eG encV K)) = true := sized_eG (e := encV) l
    have hb1 : inB ((B.1.1, B.1.2.1, B.1.2.2), (B.2.1, B.2.2.1, B.2.2.2)) (x.1, x.2.1, x.2.2) = true := hB x hm
    have hb2 : inB ((C.1.1, C.1.2.1, C.1.2.2), (C.2.1, C.2.2.1, C.2.2.2)) (x.1, x.2.1, x.2.2) = true := hC x hm
    have n1 := anyX_next (f := fun v => v.1) (q := B.1.1) hx
    have n2 := anyX_next (f := fun v => v.2.2) (q := B.2.2.2) hx
    have hO : bhO K p1 p2 p3 B C l i = bhO K p1 p2 p3 B C l (i + 1) := rfl
    cases c1 : (anyX (fun v => v.1) B.1.1 l (i)) with
    | true =>
      rw [c1, Bool.true_or] at n1
      cases c2 : (anyX (fun v => v.2.2) B.2.2.2 l (i)) with
      | true =>
        rw [c2, Bool.true_or] at n2
        refine ⟨60, [true, true, true], ?_⟩
        simp (maxSteps := 10000000) only [bhI, go_sem, hn, hv, hz, List.length_map, hb1, hb2, hw, hO, c1, n1, c2, n2, Round, RoundI, reduceCtorEq, false_and, or_false, false_or, true_and, and_true, Bool.false_eq_true, decide_eq_true_eq, decide_eq_false_iff_not, decide_eq_true_eq, decide_eq_false_iff_not, ne_eq, not_true_eq_false, not_false_eq_true, Decidable.not_not, beq_iff_eq, beq_eq_false_iff_ne, bne_eq_false_iff_eq, bne_iff_ne, qsgn_zero, qsgn_le, qsgn_lt, qsgn_gt, qsgn_ge, Nat.reduceAdd, Nat.reduceSub, Nat.reduceMul, Int.reduceAdd, Int.reduceSub, Int.reduceToNat]
        and_intros
        all_goals first | with_reducible rfl | omega | assumption | exact .inl rfl | exact id | (grind)
      | false =>
        rw [c2, Bool.false_or] at n2
        by_cases e2 : x.2.2 = B.2.2.2
        · rw [decide_eq_true e2] at n2
          refine ⟨60, [true, true, true, true], ?_⟩
          simp (maxSteps := 10000000) only [bhI, go_sem, hn, hv, hz, List.length_map, hb1, hb2, hw, hO, c1, n1, c2, n2, e2, Round, RoundI, reduceCtorEq, false_and, or_false, false_or, true_and, and_true, Bool.false_eq_true, decide_eq_true_eq, decide_eq_false_iff_not, decide_eq_true_eq, decide_eq_false_iff_not, ne_eq, not_true_eq_false, not_false_eq_true, Decidable.not_not, beq_iff_eq, beq_eq_false_iff_ne, bne_eq_false_iff_eq, bne_iff_ne, qsgn_zero, qsgn_le, qsgn_lt, qsgn_gt, qsgn_ge, Nat.reduceAdd, Nat.reduceSub, Nat.reduceMul, Int.reduceAdd, Int.reduceSub, Int.reduceToNat]
          and_intros
          all_goals first | with_reducible rfl | omega | assumption | exact .inl rfl | exact id | (grind)
        · rw [decide_eq_false e2] at n2
          refine ⟨60, [true, true, true, false], ?_⟩
          simp (maxSteps := 10000000) only [bhI, go_sem, hn, hv, hz, List.length_map, hb1, hb2, hw, hO, c1, n1, c2, n2, e2, Round, RoundI, reduceCtorEq, false_and, or_false, false_or, true_and, and_true, Bool.false_eq_true, decide_eq_true_eq, decide_eq_false_iff_not, decide_eq_true_eq, decide_eq_false_iff_not, ne_eq, not_true_eq_false, not_false_eq_true, Decidable.not_not, beq_iff_eq, beq_eq_false_iff_ne, bne_eq_false_iff_eq, bne_iff_ne, qsgn_zero, qsgn_le, qsgn_lt, qsgn_gt, qsgn_ge, Nat.reduceAdd, Nat.reduceSub, Nat.reduceMul, Int.reduceAdd, Int.reduceSub, Int.reduceToNat]
          and_intros
          all_goals first | with_reducible rfl | omega | assumption | exact .inl rfl | exact id | (grind)
    | false =>
      rw [c1, Bool.false_or] at n1
      by_cases e1 : x.1 = B.1.1
      · rw [decide_eq_true e1] at n1
        cases c2 : (anyX (fun v => v.2.2) B.2.2.2 l (i)) with
        | true =>
          rw [c2, Bool.true_or] at n2
          refine ⟨60, [true, true, true, true], ?_⟩
          simp (maxSteps := 10000000) only [bhI, go_sem, hn, hv, hz, List.length_map, hb1, hb2, hw, hO, c1, n1, e1, c2, n2, Round, RoundI, reduceCtorEq, false_and, or_false, false_or, true_and, and_true, Bool.false_eq_true, decide_eq_true_eq, decide_eq_false_iff_not, decide_eq_true_eq, decide_eq_false_iff_not, ne_eq, not_true_eq_false, not_false_eq_true, Decidable.not_not, beq_iff_eq, beq_eq_false_iff_ne, bne_eq_false_iff_eq, bne_iff_ne, qsgn_zero, qsgn_le, qsgn_lt, qsgn_gt, qsgn_ge, Nat.reduceAdd, Nat.reduceSub, Nat.reduceMul, Int.reduceAdd, Int.reduceSub, Int.reduceToNat]
          and_intros
          all_goals first | with_reducible rfl | omega | assumption | exact .inl rfl | exact id | (grind)
        | false =>
          rw [c2, Bool.false_or] at n2
          by_cases e2 : x.2.2 = B.2.2.2
          · rw [decide_eq_true e2] at n2
            refine ⟨60, [true, true, true, true, true], ?_⟩
            simp (maxSteps := 10000000) only [bhI, go_sem, hn, hv, hz, List.length_map, hb1, hb2, hw, hO, c1, n1, e1, c2, n2, e2, Round, RoundI, reduceCtorEq, false_and, or_false, false_or, true_and, and_true, Bool.false_eq_true, decide_eq_true_eq, decide_eq_false_iff_not, decide_eq_true_eq, decide_eq_false_iff_not, ne_eq, not_true_eq_false, not_false_eq_true, Decidable.not_not, beq_iff_eq, beq_eq_false_iff_ne, bne_eq_false_iff_eq, bne_iff_ne, qsgn_zero, qsgn_le, qsgn_lt, qsgn_gt, qsgn_ge, Nat.reduceAdd, Nat.reduceSub, Nat.reduceMul, Int.reduceAdd, Int.reduceSub, Int.reduceToNat]
            and_intros
            all_goals first | with_reducible rfl | omega | assumption | exact .inl rfl | exact id | (grind)
          · rw [decide_eq_false e2] at n2
            refine ⟨60, [true, true, true, true, false], ?_⟩
            simp (maxSteps := 10000000) only [bhI, go_sem, hn, hv, hz, List.length_map, hb1, hb2, hw, hO, c1, n1, e1, c2, n2, e2, Round, RoundI, reduceCtorEq, false_and, or_false, false_or, true_and, and_true, Bool.false_eq_true, decide_eq_true_eq, decide_eq_false_iff_not, decide_eq_true_eq, decide_eq_false_iff_not, ne_eq, not_true_eq_false, not_false_eq_true, Decidable.not_not, beq_iff_eq, beq_eq_false_iff_ne, bne_eq_false_iff_eq, bne_iff_ne, qsgn_zero, qsgn_le, qsgn_lt, qsgn_gt, qsgn_ge, Nat.reduceAdd, Nat.reduceSub, Nat.reduceMul, Int.reduceAdd, Int.reduceSub, Int.reduceToNat]
            and_intros
            all_goals first | with_reducible rfl | omega | assumption | exact .inl rfl | exact id | (grind)
      · rw [decide_eq_false e1] at n1
        cases c2 : (anyX (fun v => v.2.2) B.2.2.2 l (i)) with
        | true =>
          rw [c2, Bool.true_or] at n2
          refine ⟨60, [true, true, true, false], ?_⟩
          simp (maxSteps := 10000000) only [bhI, go_sem, hn, hv, hz, List.length_map, hb1, hb2, hw, hO, c1, n1, e1, c2, n2, Round, RoundI, reduceCtorEq, false_and, or_false, false_or, true_and, and_true, Bool.false_eq_true, decide_eq_true_eq, decide_eq_false_iff_not, decide_eq_true_eq, decide_eq_false_iff_not, ne_eq, not_true_eq_false, not_false_eq_true, Decidable.not_not, beq_iff_eq, beq_eq_false_iff_ne, bne_eq_false_iff_eq, bne_iff_ne, qsgn_zero, qsgn_le, qsgn_lt, qsgn_gt, qsgn_ge, Nat.reduceAdd, Nat.reduceSub, Nat.reduceMul, Int.reduceAdd, Int.reduceSub, Int.reduceToNat]
          and_intros
          all_goals first | with_reducible rfl | omega | assumption | exact .inl rfl | exact id | (grind)
        | false =>
          rw [c2, Bool.false_or] at n2
          by_cases e2 : x.2.2 = B.2.2.2
          · rw [decide_eq_true e2] at n2
            refine ⟨60, [true, true, true, false, true], ?_⟩
            simp (maxSteps := 10000000) only [bhI, go_sem, hn, hv, hz, List.length_map, hb1, hb2, hw, hO, c1, n1, e1, c2, n2, e2, Round, RoundI, reduceCtorEq, false_and, or_false, false_or, true_and, and_true, Bool.false_eq_true, decide_eq_true_eq, decide_eq_false_iff_not, decide_eq_true_eq, decide_eq_false_iff_not, ne_eq, not_true_eq_false, not_false_eq_true, Decidable.not_not, beq_iff_eq, beq_eq_false_iff_ne, bne_eq_false_iff_eq, bne_iff_ne, qsgn_zero, qsgn_le, qsgn_lt, qsgn_gt, qsgn_ge, Nat.reduceAdd, Nat.reduceSub, Nat.reduceMul, Int.reduceAdd, Int.reduceSub, Int.reduceToNat]
            and_intros
            all_goals first | with_reducible rfl | omega | assumption | exact .inl rfl | exact id | (grind)
          · rw [decide_eq_false e2] at n2
            refine ⟨60, [true, true, true, false, false], ?_⟩
            simp (maxSteps := 10000000) only [bhI, go_sem, hn, hv, hz, List.length_map, hb1, hb2, hw, hO, c1, n1, e1, c2, n2, e2, Round, RoundI, reduceCtorEq, false_and, or_false, false_or, true_and, and_true, Bool.false_eq_true, decide_eq_true_eq, decide_eq_false_iff_not, decide_eq_true_eq, decide_eq_false_iff_not, ne_eq, not_true_eq_false, not_false_eq_true, Decidable.not_not, beq_iff_eq, beq_eq_false_iff_ne, bne_eq_false_iff_eq, bne_iff_ne, qsgn_zero, qsgn_le, qsgn_lt, qsgn_gt, qsgn_ge, Nat.reduceAdd, Nat.reduceSub, Nat.reduceMul, Int.reduceAdd, Int.reduceSub, Int.reduceToNat]
            and_intros
            all_goals first | with_reducible rfl | omega | assumption | exact .inl rfl | exact id | (grind)
  · have he : i = l.length := by omega
    have hO : bhO K p1 p2 p3 B C l l.length = (.exit 0, ⟨tmOf 94 [(0, .slice (l.map (eG encV K)) []), (3, .held (.inr (.inr (.inr (.inl (0, 0)))))), (5, .held (.inr (.inr (.inr (.inl (1, 0)))))), (6, .held (.inr (.inr (.inr (.inl (2, 0)))))), (7, .held (.inr (.inl (.bool ((anyX (fun v => v.1) B.1.1 l (l.length))))))), (8, .held (.inr (.inl (.bool ((anyX (fun v => v.2.2) B.2.2.2 l (l.length))))))), (9, .held (.inr (.inl (.int .i64 (l.length : Int)))))], [⟨30, [.held (.inl (p1, K, false)), .held (.inl (p2, K, false)), .held (.inl (p3, K, false))], none⟩, ⟨32, [.held (.inl (B.1.1, K, true)), .held (.inl (B.1.2.1, K, true)), .held (.inl (B.1.2.2, K, true)), .held (.inl (B.2.1, K, true)), .held (.inl (B.2.2.1, K, true)), .held (.inl (B.2.2.2, K, true))], none⟩, ⟨32, [.held (.inl (C.1.1, K, true)), .held (.inl (C.1.2.1, K, true)), .held (.inl (C.1.2.2, K, true)), .held (.inl (C.2.1, K, true)), .held (.inl (C.2.2.1, K, true)), .held (.inl (C.2.2.2, K, true))], none⟩]⟩) := rfl
    refine ⟨60, [false], ?_⟩
    simp (maxSteps := 10000000) only [bhI, go_sem, hn, he, hO, List.length_map, Round, RoundI, reduceCtorEq, false_and, or_false, false_or, true_and, and_true, Bool.false_eq_true, decide_eq_true_eq, decide_eq_false_iff_not, decide_eq_true_eq, decide_eq_false_iff_not, ne_eq, not_true_eq_false, not_false_eq_true, Decidable.not_not, beq_iff_eq, beq_eq_false_iff_ne, bne_eq_false_iff_eq, bne_iff_ne, qsgn_zero, qsgn_le, qsgn_lt, qsgn_gt, qsgn_ge, Nat.reduceAdd, Nat.reduceSub, Nat.reduceMul, Int.reduceAdd, Int.reduceSub, Int.reduceToNat]
    and_intros
    all_goals first | with_reducible rfl | omega | assumption | exact .inl rfl | exact id | (grind)
end Go.Proofs.Ytbobhhnhlgdkiaa.Sy
