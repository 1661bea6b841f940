/- penumbralaw10.BoxesHold: true. -/
import Derived.Test.YtbobhhnhlgdkiaaBOw10h
namespace Go.Proofs.Ytbobhhnhlgdkiaa.Sy
open Go Go.RowKit M Kahn
set_option maxRecDepth 1000000
set_option linter.unusedSimpArgs false
set_option linter.unusedVariables false

set_option maxHeartbeats 16000000 in
theorem boxesHold_at (l : List V3) (p1 p2 p3 : Rat) (K : Nat) (K1 : 1 ≤ K) (hK : K ≤ 1048576) (hk0 : l.length ≤ K) (hk1 : True) : At Try.prog 5 [.slice (l.map (eG encV K)) [], mkR [p1, p2, p3] K] ⟨.inl (.held (.inr (.inl (.bool (true)))))⟩ := by
  have i0 : ((0 : Int) : Rat) / ((1 : Int) : Rat) = 0 := by decide +kernel
  have i1 : ((1 : Int) : Rat) / ((1 : Int) : Rat) = 1 := by decide +kernel
  have i2 : ((2 : Int) : Rat) / ((1 : Int) : Rat) = 2 := by decide +kernel
  have im : ((-1 : Int) : Rat) / ((1 : Int) : Rat) = -1 := by decide +kernel
  obtain ⟨L0, l0a, l0b, h0⟩ := rowG_map (e := encV) (sp := []) (by decide) K1 l
  obtain ⟨L1, l1a, l1b, h1⟩ := rowG_map (e := encV) (sp := []) (by decide) K1 (l ++ [(p1, p2, p3)])
  simp only [rowG] at h0 h1
  have hq : l.map (eG encV K) ++ [.agg [.held (.inl (p1, K, false)), .held (.inl (p2, K, false)), .held (.inl (p3, K, false))]] = (l ++ [(p1, p2, p3)]).map (eG encV K) := by rw [List.map_append]; rfl
  have hz0 : sized 9 (l.map (eG encV K)) = true := sized_eG (e := encV) l
  have hB : ∀ v ∈ l, inB (jns (l.map dbl)) v = true := fun v h => around_in h
  have hC : ∀ v ∈ l, inB (jns ((l ++ [(p1, p2, p3)]).map dbl)) v = true := fun v h => around_in (List.mem_append_left _ h)
  have hb3 : inB (jns ((l ++ [(p1, p2, p3)]).map dbl)) (p1, p2, p3) = true := around_in (List.mem_append_right _ (List.mem_singleton.2 rfl))
  have hlo : l ≠ [] → ∃ v ∈ l, v.1 = (jns (l.map dbl)).1.1 := fun h => jns_lo h
  have hhi : l ≠ [] → ∃ v ∈ l, v.2.2 = (jns (l.map dbl)).2.2.2 := fun h => jns_hi h
  have hj : l ≠ [] → jns [jns (l.map dbl), jns ((l ++ [(p1, p2, p3)]).map dbl)] = jns ((l ++ [(p1, p2, p3)]).map dbl) := fun h => hold_join (p1, p2, p3) h
  obtain ⟨B, gB⟩ : ∃ B, jns (l.map dbl) = B := ⟨_, rfl⟩
  obtain ⟨C, gC⟩ : ∃ C, jns ((l ++ [(p1, p2, p3)]).map dbl) = C := ⟨_, rfl⟩
  rw [gB] at hB hlo hhi hj
  rw [gC] at hC hb3 hj
  have hb3 : inB ((C.1.1, C.1.2.1, C.1.2.2), (C.2.1, C.2.2.1, C.2.2.2)) (p1, p2, p3) = true := hb3
  have hO0 : bhO K p1 p2 p3 B C l 0 = (.exit 0, ⟨tmOf 94 [(0, .slice (l.map (eG encV K)) []), (3, .held (.inr (.inr (.inr (.inl (0, 0)))))), (5, .held (.inr (.inr (.inr (.inl (1, 0)))))), (6, .held (.inr (.inr (.inr (.inl (2, 0)))))), (7, .held (.inr (.inl (.bool ((anyX (fun v => v.1) B.1.1 l (l.length))))))), (8, .held (.inr (.inl (.bool ((anyX (fun v => v.2.2) B.2.2.2 l (l.length))))))), (9, .held (.inr (.inl (.int .i64 (l.length : Int)))))], [⟨30, [.held (.inl (p1, K, false)), .held (.inl (p2, K, false)), .held (.inl (p3, K, false))], none⟩, ⟨32, [.held (.inl (B.1.1, K, true)), .held (.inl (B.1.2.1, K, true)), .held (.inl (B.1.2.2, K, true)), .held (.inl (B.2.1, K, true)), .held (.inl (B.2.2.1, K, true)), .held (.inl (B.2.2.2, K, true))], none⟩, ⟨32, [.held (.inl (C.1.1, K, true)), .held (.inl (C.1.2.1, K, true)), .held (.inl (C.1.2.2, K, true)), .held (.inl (C.2.1, K, true)), .held (.inl (C.2.2.1, K, true)), .held (.inl (C.2.2.2, K, true))], none⟩]⟩) := rfl
  have z1 := anyX_zero (f := fun v => v.1) (q := B.1.1) (l := l)
  have z2 := anyX_zero (f := fun v => v.2.2) (q := B.2.2.2) (l := l)
  by_cases hn : l = []
  · rw [decide_eq_true hn] at z1 z2
    have y1 : (anyX (fun v => v.1) B.1.1 l (l.length)) = true := by rw [hn] at z1 ⊢; exact z1
    have y2 : (anyX (fun v => v.2.2) B.2.2.2 l (l.length)) = true := by rw [hn] at z2 ⊢; exact z2
    have h2 : ((l.length : Int) == 0) = true := by rw [hn]; rfl
    refine At.okL (fuel := 100) (hs := [true, true, true, true]) S2d_ok Try.func5 (by kernel_rfl) (bh_loop K p1 p2 p3 B C l K1 hK hk0 hB hC) ?_
    simp (maxSteps := 10000000) only [Try.f5, go_sem, gB, gC, hz0, z1, z2, y1, y2, hO0, rowG, h0, h1, h2, hq, hb3, List.length_map, bhI, Round, RoundI, reduceCtorEq, false_and, or_false, false_or, true_and, and_true, Bool.false_eq_true, decide_eq_true_eq, decide_eq_false_iff_not, i0, i1, i2, im, decide_eq_true_eq, decide_eq_false_iff_not, ne_eq, not_true_eq_false, not_false_eq_true, Decidable.not_not, beq_iff_eq, beq_eq_false_iff_ne, bne_eq_false_iff_eq, bne_iff_ne, qsgn_zero, qsgn_le, qsgn_lt, qsgn_gt, qsgn_ge, Nat.reduceAdd, Nat.reduceSub, Nat.reduceMul, Int.reduceAdd, Int.reduceSub, Int.reduceToNat]
    and_intros
    all_goals first | with_reducible rfl | omega | assumption | exact .inl rfl | exact id | (grind)
  · rw [decide_eq_false hn] at z1 z2
    obtain ⟨v1, w1, w2⟩ := hlo hn
    obtain ⟨v2, w3, w4⟩ := hhi hn
    have y1 : (anyX (fun v => v.1) B.1.1 l (l.length)) = true := anyX_yes w1 w2
    have y2 : (anyX (fun v => v.2.2) B.2.2.2 l (l.length)) = true := anyX_yes w3 w4
    have hl0 : 0 < l.length := List.length_pos_iff.2 hn
    have h2 : ((l.length : Int) == 0) = false := by rw [beq_eq_false_iff_ne]; omega
    have hj : jns [((B.1.1, B.1.2.1, B.1.2.2), (B.2.1, B.2.2.1, B.2.2.2)), ((C.1.1, C.1.2.1, C.1.2.2), (C.2.1, C.2.2.1, C.2.2.2))] = C := hj hn
    refine At.okL (fuel := 100) (hs := [false, true, true, false, true]) S2d_ok Try.func5 (by kernel_rfl) (bh_loop K p1 p2 p3 B C l K1 hK hk0 hB hC) ?_
    simp (maxSteps := 10000000) only [Try.f5, go_sem, gB, gC, hz0, z1, z2, y1, y2, hO0, rowG, h0, h1, h2, hq, hb3, List.length_map, rowGE, ratsH, encB, hj, decide_true, Bool.and_self, bhI, Round, RoundI, reduceCtorEq, false_and, or_false, false_or, true_and, and_true, Bool.false_eq_true, decide_eq_true_eq, decide_eq_false_iff_not, i0, i1, i2, im, decide_eq_true_eq, decide_eq_false_iff_not, ne_eq, not_true_eq_false, not_false_eq_true, Decidable.not_not, beq_iff_eq, beq_eq_false_iff_ne, bne_eq_false_iff_eq, bne_iff_ne, qsgn_zero, qsgn_le, qsgn_lt, qsgn_gt, qsgn_ge, Nat.reduceAdd, Nat.reduceSub, Nat.reduceMul, Int.reduceAdd, Int.reduceSub, Int.reduceToNat]
    and_intros
    all_goals first | with_reducible rfl | omega | assumption | exact .inl rfl | exact id | (grind)
theorem boxesHold_tp (l : List V3) (p : V3) (K : Nat) (K1 : 1 ≤ K) (hK : K ≤ 1048576) (hk0 : l.length ≤ K) (hk1 : True) : At Try.prog 5 [.slice (l.map (eG encV K)) [], mkR [p.1, p.2.1, p.2.2] K] ⟨.inl (.held (.inr (.inl (.bool (true)))))⟩ :=
  boxesHold_at l p.1 p.2.1 p.2.2 K K1 hK hk0 hk1
end Go.Proofs.Ytbobhhnhlgdkiaa.Sy
