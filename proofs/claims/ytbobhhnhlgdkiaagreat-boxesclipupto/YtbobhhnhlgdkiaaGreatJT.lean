/- A span, cut by two sides after two sides. -/
import Derived.Test.YtbobhhnhlgdkiaaGreatJS
namespace Go.Proofs.YtbobhhnhlgdkiaaGreat.Sy
open Go Go.RowKit M Kahn
set_option maxRecDepth 100000

/-- The span of a ray in a box: is there one; from where, to where. -/
def clp (o d : V3) (b : B6) : Bool × Rat × Rat := cf (fun s => inB b (onR o d s)) (cl0 o d b)
theorem clp_is (o d : V3) (b : B6) : CfIs (fun s => inB b (onR o d s)) (cl0 o d b) (clp o d b) := cf_all _ _
def clFrom (o d : V3) (b : B6) : Rat := (clp o d b).2.1
def clTo (o d : V3) (b : B6) : Rat := (clp o d b).2.2
def clOk (o d : V3) (b : B6) : Bool := (clp o d b).1
theorem clp_within (o d : V3) (b : B6) {s : Rat} (hs : 0 ≤ s) : inB b (onR o d s) = (clOk o d b && (decide (clFrom o d b ≤ s) && (still d || decide (s ≤ clTo o d b)))) := within hs (clp_is o d b)
/-- What is left of a span between two sides: from, to, open; is anything left? -/
def nF (f o d lo hi : Rat) : Rat := if d = 0 then f else mx f (enA o d lo hi)
def nT (t : Rat) (op : Bool) (o d lo hi : Rat) : Rat := if d = 0 then t else if op then exA o d lo hi else mn t (exA o d lo hi)
def nO (op : Bool) (d : Rat) : Bool := op && decide (d = 0)
def nK (f t : Rat) (op : Bool) (o d lo hi : Rat) : Bool := if d = 0 then btw o lo hi else decide (nF f o d lo hi ≤ nT t op o d lo hi)
section
variable {f t o d lo hi : Rat} {op : Bool}
theorem nF_still (h : d = 0) : nF f o d lo hi = f := if_pos h
theorem nT_still (h : d = 0) : nT t op o d lo hi = t := if_pos h
theorem nO_still (h : d = 0) : nO op d = op := by unfold nO; rw [decide_eq_true h, Bool.and_true]
theorem nK_still (h : d = 0) : nK f t op o d lo hi = btw o lo hi := if_pos h
theorem nF_move (h : ¬ d = 0) : nF f o d lo hi = mx f (enA o d lo hi) := if_neg h
theorem nT_move (h : ¬ d = 0) : nT t op o d lo hi = if op then exA o d lo hi else mn t (exA o d lo hi) := if_neg h
theorem nO_move (h : ¬ d = 0) : nO op d = false := by unfold nO; rw [decide_eq_false h, Bool.and_false]
theorem nK_move (h : ¬ d = 0) : nK f t op o d lo hi = decide (mx f (enA o d lo hi) ≤ if op then exA o d lo hi else mn t (exA o d lo hi)) := by unfold nK; rw [if_neg h, nF_move h, nT_move h]
/-- The places, not below 0, at which h holds are those of a span. -/
structure Spn (h : Rat → Prop) (f t : Rat) (op : Bool) : Prop where
  nn : 0 ≤ f
  iff : ∀ s, 0 ≤ s → (h s ↔ f ≤ s ∧ (op = true ∨ s ≤ t))
  far : op = true → f = 0 ∧ t = 0
  le : op = false → f ≤ t
theorem Spn.start : Spn (fun _ => True) 0 0 true := ⟨Rat.le_refl, fun _ hs => ⟨fun _ => ⟨hs, .inl rfl⟩, fun _ => trivial⟩, fun _ => ⟨rfl, rfl⟩, nofun⟩
theorem Spn.to {h h' : Rat → Prop} (k : Spn h f t op) (e : ∀ s, h s ↔ h' s) : Spn h' f t op := ⟨k.nn, fun s hs => (e s).symm.trans (k.iff s hs), k.far, k.le⟩
theorem Spn.yes {h : Rat → Prop} (k : Spn h f t op) (hk : nK f t op o d lo hi = true) : Spn (fun s => h s ∧ btw (o + s * d) lo hi = true) (nF f o d lo hi) (nT t op o d lo hi) (nO op d) := by
  by_cases hd : d = 0
  · rw [nF_still hd, nT_still hd, nO_still hd]
    rw [nK_still hd] at hk
    refine ⟨k.nn, fun s hs => ?_, k.far, k.le⟩
    rw [hd, Rat.mul_zero, Rat.add_zero]
    exact ⟨fun h => (k.iff s hs).1 h.1, fun h => ⟨(k.iff s hs).2 h, hk⟩⟩
  · rw [nK_move hd] at hk
    have hk := of_decide_eq_true hk
    rw [nF_move hd, nT_move hd, nO_move hd]
    obtain ⟨m1, m2, m3⟩ := mx_le (a := f) (b := enA o d lo hi)
    obtain ⟨n1, n2, n3⟩ := mn_le (a := t) (b := exA o d lo hi)
    refine ⟨Rat.le_trans k.nn m1, fun s hs => ?_, nofun, fun _ => hk⟩
    rw [k.iff s hs, ax_iff hd]
    clear hk
    generalize enA o d lo hi = A at *
    generalize exA o d lo hi = B at *
    generalize mx f A = X at *
    generalize mn t B = Y at *
    cases op
    · simp only [Bool.false_eq_true, if_false, false_or]
      constructor
      · rintro ⟨⟨a1, a2⟩, a3, a4⟩
        constructor <;> grind
      · rintro ⟨a1, a2⟩
        refine ⟨⟨?_, ?_⟩, ?_, ?_⟩ <;> grind
    · simp only [if_true, true_or, and_true, Bool.false_eq_true, false_or]
      constructor
      · rintro ⟨a1, a3, a4⟩
        constructor <;> grind
      · rintro ⟨a1, a2⟩
        refine ⟨?_, ?_, ?_⟩ <;> grind
theorem Spn.no {h : Rat → Prop} (k : Spn h f t op) (hk : nK f t op o d lo hi = false) (s : Rat) (hs : 0 ≤ s) : ¬ (h s ∧ btw (o + s * d) lo hi = true) := by
  rintro ⟨h1, h2⟩
  rw [k.iff s hs] at h1
  by_cases hd : d = 0
  · rw [nK_still hd] at hk
    rw [hd, Rat.mul_zero, Rat.add_zero, hk] at h2
    cases h2
  · rw [nK_move hd] at hk
    have hk := of_decide_eq_false hk
    rw [ax_iff hd] at h2
    obtain ⟨m1, m2, m3⟩ := mx_le (a := f) (b := enA o d lo hi)
    obtain ⟨n1, n2, n3⟩ := mn_le (a := t) (b := exA o d lo hi)
    generalize enA o d lo hi = A at *
    generalize exA o d lo hi = B at *
    generalize mx f A = X at *
    generalize mn t B = Y at *
    cases op
    · simp only [Bool.false_eq_true, if_false, false_or] at hk h1
      grind
    · simp only [if_true] at hk
      grind
end
theorem cst_none {h : Rat → Bool} {r : Bool × Rat × Rat} {s : Rat} (e : (cst h r s).1 = false) : cst h r s = r := by
  unfold cst at *
  split at e
  · cases e
  · rename_i hh; rw [if_neg hh]
theorem cf_none {h : Rat → Bool} : ∀ (l : List Rat) (r : Bool × Rat × Rat), (l.foldl (cst h) r).1 = false → l.foldl (cst h) r = r
  | [], _, _ => rfl
  | s :: l, r, e => by
    rw [List.foldl_cons] at e ⊢
    have h1 := cf_none l _ e
    rw [h1] at e ⊢
    exact cst_none e
section
variable {o d : V3} {b : B6}
theorem clip_no (k : ∀ s, 0 ≤ s → ¬ inB b (onR o d s) = true) : clOk o d b = false ∧ clFrom o d b = 0 ∧ clTo o d b = 0 := by
  have h0 : clOk o d b = false := by
    cases h : clOk o d b with
    | false => rfl
    | true =>
      obtain ⟨h1, h2, _⟩ := (clp_is o d b).lo h
      exact absurd h1 (k _ (cl0_nn h2))
  have e : clp o d b = (false, 0, 0) := cf_none (cl0 o d b) (false, 0, 0) h0
  exact ⟨h0, by unfold clFrom; rw [e], by unfold clTo; rw [e]⟩
theorem clip_yes {f t : Rat} (k : Spn (fun s => inB b (onR o d s) = true) f t (still d)) : clOk o d b = true ∧ clFrom o d b = f ∧ clTo o d b = t := by
  have hf : inB b (onR o d f) = true := (k.iff f k.nn).2 ⟨Rat.le_refl, by
    cases hs : still d with
    | true => exact .inl rfl
    | false => exact .inr (k.le hs)⟩
  have W := clp_within o d b k.nn
  rw [hf] at W
  have W := W.symm
  simp only [Bool.and_eq_true, decide_eq_true_eq] at W
  obtain ⟨w1, w2, w3⟩ := W
  obtain ⟨l1, l2, l3⟩ := (clp_is o d b).lo w1
  obtain ⟨u1, u2, u3⟩ := (clp_is o d b).hi w1
  have e1 : clFrom o d b = f := Rat.le_antisymm w2 ((k.iff _ (cl0_nn l2)).1 l1).1
  refine ⟨w1, e1, ?_⟩
  cases hs : still d with
  | true =>
    rw [(k.far hs).2]
    have hz : cl0 o d b = [0] := by
      unfold still at hs
      obtain ⟨z1, z2, z3⟩ := of_decide_eq_true hs
      unfold cl0 edl
      rw [if_pos z1, if_pos z2, if_pos z3]
      rfl
    rw [hz] at u2
    exact List.mem_singleton.1 u2
  | false =>
    have hle := k.le hs
    have ht : inB b (onR o d t) = true := (k.iff t (Rat.le_trans k.nn hle)).2 ⟨hle, .inr Rat.le_refl⟩
    have W := clp_within o d b (Rat.le_trans k.nn hle)
    rw [ht, hs] at W
    have W := W.symm
    simp only [Bool.and_eq_true, Bool.false_or, decide_eq_true_eq] at W
    have := ((k.iff _ (cl0_nn u2)).1 u1).2
    rw [hs] at this
    exact Rat.le_antisymm (this.resolve_left nofun) W.2.2
end
theorem still_is (d1 d2 d3 : Rat) : nO (nO (nO true d1) d2) d3 = still (d1, d2, d3) := by
  unfold nO still
  rw [Bool.eq_iff_iff]
  simp [and_assoc]
section
variable (o1 o2 o3 d1 d2 d3 b1 b2 b3 b4 b5 b6 : Rat)
theorem clip_no1 (h1 : nK 0 0 true o1 d1 b1 b4 = false) : clOk (o1, o2, o3) (d1, d2, d3) ((b1, b2, b3), (b4, b5, b6)) = false ∧ clFrom (o1, o2, o3) (d1, d2, d3) ((b1, b2, b3), (b4, b5, b6)) = 0 ∧ clTo (o1, o2, o3) (d1, d2, d3) ((b1, b2, b3), (b4, b5, b6)) = 0 :=
  clip_no fun s hs h => Spn.start.no h1 s hs ⟨trivial, (inB_iff.1 h).1⟩
theorem clip_no2 (h1 : nK 0 0 true o1 d1 b1 b4 = true) (h2 : nK (nF 0 o1 d1 b1 b4) (nT 0 true o1 d1 b1 b4) (nO true d1) o2 d2 b2 b5 = false) : clOk (o1, o2, o3) (d1, d2, d3) ((b1, b2, b3), (b4, b5, b6)) = false ∧ clFrom (o1, o2, o3) (d1, d2, d3) ((b1, b2, b3), (b4, b5, b6)) = 0 ∧ clTo (o1, o2, o3) (d1, d2, d3) ((b1, b2, b3), (b4, b5, b6)) = 0 :=
  clip_no fun s hs h => (Spn.start.yes h1).no h2 s hs ⟨⟨trivial, (inB_iff.1 h).1⟩, (inB_iff.1 h).2.1⟩
theorem clip_no3 (h1 : nK 0 0 true o1 d1 b1 b4 = true) (h2 : nK (nF 0 o1 d1 b1 b4) (nT 0 true o1 d1 b1 b4) (nO true d1) o2 d2 b2 b5 = true) (h3 : nK (nF (nF 0 o1 d1 b1 b4) o2 d2 b2 b5) (nT (nT 0 true o1 d1 b1 b4) (nO true d1) o2 d2 b2 b5) (nO (nO true d1) d2) o3 d3 b3 b6 = false) : clOk (o1, o2, o3) (d1, d2, d3) ((b1, b2, b3), (b4, b5, b6)) = false ∧ clFrom (o1, o2, o3) (d1, d2, d3) ((b1, b2, b3), (b4, b5, b6)) = 0 ∧ clTo (o1, o2, o3) (d1, d2, d3) ((b1, b2, b3), (b4, b5, b6)) = 0 :=
  clip_no fun s hs h => ((Spn.start.yes h1).yes h2).no h3 s hs ⟨⟨⟨trivial, (inB_iff.1 h).1⟩, (inB_iff.1 h).2.1⟩, (inB_iff.1 h).2.2⟩
theorem clip_all (h1 : nK 0 0 true o1 d1 b1 b4 = true) (h2 : nK (nF 0 o1 d1 b1 b4) (nT 0 true o1 d1 b1 b4) (nO true d1) o2 d2 b2 b5 = true) (h3 : nK (nF (nF 0 o1 d1 b1 b4) o2 d2 b2 b5) (nT (nT 0 true o1 d1 b1 b4) (nO true d1) o2 d2 b2 b5) (nO (nO true d1) d2) o3 d3 b3 b6 = true) :
    clOk (o1, o2, o3) (d1, d2, d3) ((b1, b2, b3), (b4, b5, b6)) = true ∧ clFrom (o1, o2, o3) (d1, d2, d3) ((b1, b2, b3), (b4, b5, b6)) = nF (nF (nF 0 o1 d1 b1 b4) o2 d2 b2 b5) o3 d3 b3 b6 ∧ clTo (o1, o2, o3) (d1, d2, d3) ((b1, b2, b3), (b4, b5, b6)) = nT (nT (nT 0 true o1 d1 b1 b4) (nO true d1) o2 d2 b2 b5) (nO (nO true d1) d2) o3 d3 b3 b6 := by
  have k := ((Spn.start.yes h1).yes h2).yes h3
  rw [still_is] at k
  refine clip_yes (k.to fun s => ?_)
  rw [inB_iff]
  exact ⟨fun ⟨⟨⟨_, a⟩, b⟩, c⟩ => ⟨a, b, c⟩, fun ⟨a, b, c⟩ => ⟨⟨⟨trivial, a⟩, b⟩, c⟩⟩
end
end Go.Proofs.YtbobhhnhlgdkiaaGreat.Sy

/- package boxes: rows. -/
namespace Go.Proofs.YtbobhhnhlgdkiaaGreat.Sy
open Go Go.RowKit M Kahn
set_option maxRecDepth 1000000
set_option linter.unusedSimpArgs false
set_option linter.unusedVariables false

@[go_sem] def sRowOf : Spec := spN 16 fun l => match l with
  | [([a1, a2, a3], K)] => some (⟨.inl (mkR [a1, a2, a3] (K))⟩, 1 ≤ K)
  | _ => none
set_option maxHeartbeats 16000000 in
theorem sRowOf_ok : SpecOk Tryz.prog sRowOf := SpecOk.mk' Tryz.func16 (by kernel_rfl) (by kernel_rfl) (spN_at fun l r p h hp => by
  split at h
  · rename_i a1 a2 a3 K
    cases h
    have i0 : ((0 : Int) : Rat) / ((1 : Int) : Rat) = 0 := by decide +kernel
    have i1 : ((1 : Int) : Rat) / ((1 : Int) : Rat) = 1 := by decide +kernel
    have i2 : ((2 : Int) : Rat) / ((1 : Int) : Rat) = 2 := by decide +kernel
    have im : ((-1 : Int) : Rat) / ((1 : Int) : Rat) = -1 := by decide +kernel
    refine At.ok (fuel := 60) (hs := []) S25_ok Tryz.func16 (by kernel_rfl) ?_
    simp (maxSteps := 10000000) only [Tryz.f16, go_sem, i0, i1, i2, im, decide_eq_true_eq, decide_eq_false_iff_not, ne_eq, not_true_eq_false, not_false_eq_true, Decidable.not_not, beq_iff_eq, beq_eq_false_iff_ne, bne_eq_false_iff_eq, bne_iff_ne, qsgn_zero, qsgn_le, qsgn_lt, qsgn_gt, qsgn_ge, Nat.reduceAdd, Nat.reduceSub, Nat.reduceMul, Int.reduceAdd, Int.reduceSub, Int.reduceToNat]
    try and_intros
    all_goals first | with_reducible rfl | omega | assumption | exact .inl rfl | exact id | (grind)
  · cases h)
@[go_sem] def sRowVec : Spec := spN 67 fun l => match l with
  | [([a1, a2, a3], K)] => some (⟨.inl (cn [a1, a2, a3] (max K 1))⟩, K ≤ 4294967296)
  | _ => none
set_option maxHeartbeats 16000000 in
theorem sRowVec_ok : SpecOk Tryz.prog sRowVec := SpecOk.mk' Tryz.func67 (by kernel_rfl) (by kernel_rfl) (spN_at fun l r p h hp => by
  split at h
  · rename_i a1 a2 a3 K
    cases h
    have i0 : ((0 : Int) : Rat) / ((1 : Int) : Rat) = 0 := by decide +kernel
    have i1 : ((1 : Int) : Rat) / ((1 : Int) : Rat) = 1 := by decide +kernel
    have i2 : ((2 : Int) : Rat) / ((1 : Int) : Rat) = 2 := by decide +kernel
    have im : ((-1 : Int) : Rat) / ((1 : Int) : Rat) = -1 := by decide +kernel
    obtain ⟨M, hM⟩ : ∃ M, max K 1 = M := ⟨_, rfl⟩
    have hM1 : 1 ≤ M ∧ K ≤ M ∧ M ≤ 4294967296 := by omega
    rw [hM]
    refine At.weak (ys := [mkR [a1, a2, a3] M]) ?_ fun E w args ⟨v, r, e, h1, h2⟩ => ⟨v, r, e, VLe.is (show VLe (mkR [a1, a2, a3] K) (mkR [a1, a2, a3] M) from ⟨⟨rfl, hM1.2.1, id⟩, ⟨rfl, hM1.2.1, id⟩, ⟨rfl, hM1.2.1, id⟩, trivial⟩) h1, h2⟩
    clear hM
    refine At.ok (fuel := 60) (hs := []) S25_ok Tryz.func67 (by kernel_rfl) ?_
    simp (maxSteps := 10000000) only [Tryz.f67, go_sem, i0, i1, i2, im, decide_eq_true_eq, decide_eq_false_iff_not, ne_eq, not_true_eq_false, not_false_eq_true, Decidable.not_not, beq_iff_eq, beq_eq_false_iff_ne, bne_eq_false_iff_eq, bne_iff_ne, qsgn_zero, qsgn_le, qsgn_lt, qsgn_gt, qsgn_ge, Nat.reduceAdd, Nat.reduceSub, Nat.reduceMul, Int.reduceAdd, Int.reduceSub, Int.reduceToNat]
    try and_intros
    all_goals first | with_reducible rfl | omega | assumption | exact .inl rfl | exact id | (grind)
  · cases h)
@[go_sem] def sIsBtw : Spec := spN 30 fun l => match l with
  | [([p], K), ([a], L), ([b], M)] => some (⟨.inl (.held (.inr (.inl (.bool (btw p a b)))))⟩, 1 ≤ K ∧ 1 ≤ L ∧ 1 ≤ M ∧ K + L + 1 ≤ 4294967296 ∧ K + M + 1 ≤ 4294967296)
  | _ => none
set_option maxHeartbeats 16000000 in
theorem sIsBtw_ok : SpecOk Tryz.prog sIsBtw := SpecOk.mk' Tryz.func30 (by kernel_rfl) (by kernel_rfl) (spN_at fun l r p h hp => by
  split at h
  · rename_i p K a L b M
    cases h
    have i0 : ((0 : Int) : Rat) / ((1 : Int) : Rat) = 0 := by decide +kernel
    have i1 : ((1 : Int) : Rat) / ((1 : Int) : Rat) = 1 := by decide +kernel
    have i2 : ((2 : Int) : Rat) / ((1 : Int) : Rat) = 2 := by decide +kernel
    have im : ((-1 : Int) : Rat) / ((1 : Int) : Rat) = -1 := by decide +kernel
    by_cases h1 : p - a ≥ 0
    · by_cases h2 : p - b ≤ 0
      · rw [btw_yes h1 h2]
        refine At.ok (fuel := 60) (hs := [true, true]) S25_ok Tryz.func30 (by kernel_rfl) ?_
        simp (maxSteps := 10000000) only [Tryz.f30, go_sem, h1, h2, i0, i1, i2, im, decide_eq_true_eq, decide_eq_false_iff_not, ne_eq, not_true_eq_false, not_false_eq_true, Decidable.not_not, beq_iff_eq, beq_eq_false_iff_ne, bne_eq_false_iff_eq, bne_iff_ne, qsgn_zero, qsgn_le, qsgn_lt, qsgn_gt, qsgn_ge, Nat.reduceAdd, Nat.reduceSub, Nat.reduceMul, Int.reduceAdd, Int.reduceSub, Int.reduceToNat]
        and_intros
        all_goals first | with_reducible rfl | omega | assumption | exact .inl rfl | exact id | (grind)
      · rw [btw_no2 h2]
        refine At.ok (fuel := 60) (hs := [true, false]) S25_ok Tryz.func30 (by kernel_rfl) ?_
        simp (maxSteps := 10000000) only [Tryz.f30, go_sem, h1, h2, i0, i1, i2, im, decide_eq_true_eq, decide_eq_false_iff_not, ne_eq, not_true_eq_false, not_false_eq_true, Decidable.not_not, beq_iff_eq, beq_eq_false_iff_ne, bne_eq_false_iff_eq, bne_iff_ne, qsgn_zero, qsgn_le, qsgn_lt, qsgn_gt, qsgn_ge, Nat.reduceAdd, Nat.reduceSub, Nat.reduceMul, Int.reduceAdd, Int.reduceSub, Int.reduceToNat]
        and_intros
        all_goals first | with_reducible rfl | omega | assumption | exact .inl rfl | exact id | (grind)
    · rw [btw_no1 h1]
      refine At.ok (fuel := 60) (hs := [false]) S25_ok Tryz.func30 (by kernel_rfl) ?_
      simp (maxSteps := 10000000) only [Tryz.f30, go_sem, h1, i0, i1, i2, im, decide_eq_true_eq, decide_eq_false_iff_not, ne_eq, not_true_eq_false, not_false_eq_true, Decidable.not_not, beq_iff_eq, beq_eq_false_iff_ne, bne_eq_false_iff_eq, bne_iff_ne, qsgn_zero, qsgn_le, qsgn_lt, qsgn_gt, qsgn_ge, Nat.reduceAdd, Nat.reduceSub, Nat.reduceMul, Int.reduceAdd, Int.reduceSub, Int.reduceToNat]
      and_intros
      all_goals first | with_reducible rfl | omega | assumption | exact .inl rfl | exact id | (grind)
  · cases h)
@[go_sem] def S26 : List Spec := sRowOf :: sRowVec :: sIsBtw :: S25
theorem S26_ok : AllOk Tryz.prog S26 := ⟨sRowOf_ok, sRowVec_ok, sIsBtw_ok, S25_ok⟩
theorem mn_put {a b : Rat} (h : b - a < 0) : mn a b = b := if_neg (by grind)
theorem mn_let {a b : Rat} (h : ¬ b - a < 0) : mn a b = a := if_pos (by grind)
theorem mx_put {a b : Rat} (h : b - a > 0) : mx a b = b := if_neg (by grind)
theorem mx_let {a b : Rat} (h : ¬ b - a > 0) : mx a b = a := if_pos (by grind)
@[go_sem] def sLower : Spec := spM 68 fun _ l xs => match l, xs with
  | ([a1, a2, a3], K), [([b1, b2, b3], L)] => some ([.held (.inl (mn a1 b1, max K L, false)), .held (.inl (mn a2 b2, max K L, false)), .held (.inl (mn a3 b3, max K L, false))], 1 ≤ K ∧ 1 ≤ L ∧ K + L + 1 ≤ 4294967296)
  | _, _ => none
set_option maxHeartbeats 16000000 in
theorem sLower_ok : SpecOk Tryz.prog sLower := SpecOk.mkM Tryz.func68 (by kernel_rfl) (by kernel_rfl) (spM_at fun ty a r l' p h hp => by
  split at h
  · rename_i a1 a2 a3 K b1 b2 b3 L
    cases h
    have i0 : ((0 : Int) : Rat) / ((1 : Int) : Rat) = 0 := by decide +kernel
    have i1 : ((1 : Int) : Rat) / ((1 : Int) : Rat) = 1 := by decide +kernel
    have i2 : ((2 : Int) : Rat) / ((1 : Int) : Rat) = 2 := by decide +kernel
    have im : ((-1 : Int) : Rat) / ((1 : Int) : Rat) = -1 := by decide +kernel
    have w1 : IntKind.i64.wrap 1 = 1 := by decide
    have w2 : IntKind.i64.wrap 2 = 2 := by decide
    have w3 : IntKind.i64.wrap 3 = 3 := by decide
    by_cases h1 : b1 - a1 < 0
    · rw [mn_put h1]
      by_cases h2 : b2 - a2 < 0
      · rw [mn_put h2]
        by_cases h3 : b3 - a3 < 0
        · rw [mn_put h3]
          refine MAt.ok (fuel := 60) (hs := [true, true, true, true, true, true, false]) S26_ok Tryz.func68 (by kernel_rfl) ?_
          simp (maxSteps := 10000000) only [Tryz.f68, go_sem, w1, w2, w3, h1, h2, h3, i0, i1, i2, im, decide_eq_true_eq, decide_eq_false_iff_not, ne_eq, not_true_eq_false, not_false_eq_true, Decidable.not_not, beq_iff_eq, beq_eq_false_iff_ne, bne_eq_false_iff_eq, bne_iff_ne, qsgn_zero, qsgn_le, qsgn_lt, qsgn_gt, qsgn_ge, Nat.reduceAdd, Nat.reduceSub, Nat.reduceMul, Int.reduceAdd, Int.reduceSub, Int.reduceToNat]
          and_intros
          all_goals first | with_reducible rfl | omega | assumption | exact .inl rfl | exact id | (grind)
        · rw [mn_let h3]
          refine MAt.ok (fuel := 60) (hs := [true, true, true, true, true, false, false]) S26_ok Tryz.func68 (by kernel_rfl) ?_
          simp (maxSteps := 10000000) only [Tryz.f68, go_sem, w1, w2, w3, h1, h2, h3, i0, i1, i2, im, decide_eq_true_eq, decide_eq_false_iff_not, ne_eq, not_true_eq_false, not_false_eq_true, Decidable.not_not, beq_iff_eq, beq_eq_false_iff_ne, bne_eq_false_iff_eq, bne_iff_ne, qsgn_zero, qsgn_le, qsgn_lt, qsgn_gt, qsgn_ge, Nat.reduceAdd, Nat.reduceSub, Nat.reduceMul, Int.reduceAdd, Int.reduceSub, Int.reduceToNat]
          and_intros
          all_goals first | with_reducible rfl | omega | assumption | exact .inl rfl | exact id | (grind)
      · rw [mn_let h2]
        by_cases h3 : b3 - a3 < 0
        · rw [mn_put h3]
          refine MAt.ok (fuel := 60) (hs := [true, true, true, false, true, true, false]) S26_ok Tryz.func68 (by kernel_rfl) ?_
          simp (maxSteps := 10000000) only [Tryz.f68, go_sem, w1, w2, w3, h1, h2, h3, i0, i1, i2, im, decide_eq_true_eq, decide_eq_false_iff_not, ne_eq, not_true_eq_false, not_false_eq_true, Decidable.not_not, beq_iff_eq, beq_eq_false_iff_ne, bne_eq_false_iff_eq, bne_iff_ne, qsgn_zero, qsgn_le, qsgn_lt, qsgn_gt, qsgn_ge, Nat.reduceAdd, Nat.reduceSub, Nat.reduceMul, Int.reduceAdd, Int.reduceSub, Int.reduceToNat]
          and_intros
          all_goals first | with_reducible rfl | omega | assumption | exact .inl rfl | exact id | (grind)
        · rw [mn_let h3]
          refine MAt.ok (fuel := 60) (hs := [true, true, true, false, true, false, false]) S26_ok Tryz.func68 (by kernel_rfl) ?_
          simp (maxSteps := 10000000) only [Tryz.f68, go_sem, w1, w2, w3, h1, h2, h3, i0, i1, i2, im, decide_eq_true_eq, decide_eq_false_iff_not, ne_eq, not_true_eq_false, not_false_eq_true, Decidable.not_not, beq_iff_eq, beq_eq_false_iff_ne, bne_eq_false_iff_eq, bne_iff_ne, qsgn_zero, qsgn_le, qsgn_lt, qsgn_gt, qsgn_ge, Nat.reduceAdd, Nat.reduceSub, Nat.reduceMul, Int.reduceAdd, Int.reduceSub, Int.reduceToNat]
          and_intros
          all_goals first | with_reducible rfl | omega | assumption | exact .inl rfl | exact id | (grind)
    · rw [mn_let h1]
      by_cases h2 : b2 - a2 < 0
      · rw [mn_put h2]
        by_cases h3 : b3 - a3 < 0
        · rw [mn_put h3]
          refine MAt.ok (fuel := 60) (hs := [true, false, true, true, true, true, false]) S26_ok Tryz.func68 (by kernel_rfl) ?_
          simp (maxSteps := 10000000) only [Tryz.f68, go_sem, w1, w2, w3, h1, h2, h3, i0, i1, i2, im, decide_eq_true_eq, decide_eq_false_iff_not, ne_eq, not_true_eq_false, not_false_eq_true, Decidable.not_not, beq_iff_eq, beq_eq_false_iff_ne, bne_eq_false_iff_eq, bne_iff_ne, qsgn_zero, qsgn_le, qsgn_lt, qsgn_gt, qsgn_ge, Nat.reduceAdd, Nat.reduceSub, Nat.reduceMul, Int.reduceAdd, Int.reduceSub, Int.reduceToNat]
          and_intros
          all_goals first | with_reducible rfl | omega | assumption | exact .inl rfl | exact id | (grind)
        · rw [mn_let h3]
          refine MAt.ok (fuel := 60) (hs := [true, false, true, true, true, false, false]) S26_ok Tryz.func68 (by kernel_rfl) ?_
          simp (maxSteps := 10000000) only [Tryz.f68, go_sem, w1, w2, w3, h1, h2, h3, i0, i1, i2, im, decide_eq_true_eq, decide_eq_false_iff_not, ne_eq, not_true_eq_false, not_false_eq_true, Decidable.not_not, beq_iff_eq, beq_eq_false_iff_ne, bne_eq_false_iff_eq, bne_iff_ne, qsgn_zero, qsgn_le, qsgn_lt, qsgn_gt, qsgn_ge, Nat.reduceAdd, Nat.reduceSub, Nat.reduceMul, Int.reduceAdd, Int.reduceSub, Int.reduceToNat]
          and_intros
          all_goals first | with_reducible rfl | omega | assumption | exact .inl rfl | exact id | (grind)
      · rw [mn_let h2]
        by_cases h3 : b3 - a3 < 0
        · rw [mn_put h3]
          refine MAt.ok (fuel := 60) (hs := [true, false, true, false, true, true, false]) S26_ok Tryz.func68 (by kernel_rfl) ?_
          simp (maxSteps := 10000000) only [Tryz.f68, go_sem, w1, w2, w3, h1, h2, h3, i0, i1, i2, im, decide_eq_true_eq, decide_eq_false_iff_not, ne_eq, not_true_eq_false, not_false_eq_true, Decidable.not_not, beq_iff_eq, beq_eq_false_iff_ne, bne_eq_false_iff_eq, bne_iff_ne, qsgn_zero, qsgn_le, qsgn_lt, qsgn_gt, qsgn_ge, Nat.reduceAdd, Nat.reduceSub, Nat.reduceMul, Int.reduceAdd, Int.reduceSub, Int.reduceToNat]
          and_intros
          all_goals first | with_reducible rfl | omega | assumption | exact .inl rfl | exact id | (grind)
        · rw [mn_let h3]
          refine MAt.ok (fuel := 60) (hs := [true, false, true, false, true, false, false]) S26_ok Tryz.func68 (by kernel_rfl) ?_
          simp (maxSteps := 10000000) only [Tryz.f68, go_sem, w1, w2, w3, h1, h2, h3, i0, i1, i2, im, decide_eq_true_eq, decide_eq_false_iff_not, ne_eq, not_true_eq_false, not_false_eq_true, Decidable.not_not, beq_iff_eq, beq_eq_false_iff_ne, bne_eq_false_iff_eq, bne_iff_ne, qsgn_zero, qsgn_le, qsgn_lt, qsgn_gt, qsgn_ge, Nat.reduceAdd, Nat.reduceSub, Nat.reduceMul, Int.reduceAdd, Int.reduceSub, Int.reduceToNat]
          and_intros
          all_goals first | with_reducible rfl | omega | assumption | exact .inl rfl | exact id | (grind)
  · cases h)
@[go_sem] def sRaise : Spec := spM 69 fun _ l xs => match l, xs with
  | ([a1, a2, a3], K), [([b1, b2, b3], L)] => some ([.held (.inl (mx a1 b1, max K L, false)), .held (.inl (mx a2 b2, max K L, false)), .held (.inl (mx a3 b3, max K L, false))], 1 ≤ K ∧ 1 ≤ L ∧ K + L + 1 ≤ 4294967296)
  | _, _ => none
set_option maxHeartbeats 16000000 in
theorem sRaise_ok : SpecOk Tryz.prog sRaise := SpecOk.mkM Tryz.func69 (by kernel_rfl) (by kernel_rfl) (spM_at fun ty a r l' p h hp => by
  split at h
  · rename_i a1 a2 a3 K b1 b2 b3 L
    cases h
    have i0 : ((0 : Int) : Rat) / ((1 : Int) : Rat) = 0 := by decide +kernel
    have i1 : ((1 : Int) : Rat) / ((1 : Int) : Rat) = 1 := by decide +kernel
    have i2 : ((2 : Int) : Rat) / ((1 : Int) : Rat) = 2 := by decide +kernel
    have im : ((-1 : Int) : Rat) / ((1 : Int) : Rat) = -1 := by decide +kernel
    have w1 : IntKind.i64.wrap 1 = 1 := by decide
    have w2 : IntKind.i64.wrap 2 = 2 := by decide
    have w3 : IntKind.i64.wrap 3 = 3 := by decide
    by_cases h1 : b1 - a1 > 0
    · rw [mx_put h1]
      by_cases h2 : b2 - a2 > 0
      · rw [mx_put h2]
        by_cases h3 : b3 - a3 > 0
        · rw [mx_put h3]
          refine MAt.ok (fuel := 60) (hs := [true, true, true, true, true, true, false]) S26_ok Tryz.func69 (by kernel_rfl) ?_
          simp (maxSteps := 10000000) only [Tryz.f69, go_sem, w1, w2, w3, h1, h2, h3, i0, i1, i2, im, decide_eq_true_eq, decide_eq_false_iff_not, ne_eq, not_true_eq_false, not_false_eq_true, Decidable.not_not, beq_iff_eq, beq_eq_false_iff_ne, bne_eq_false_iff_eq, bne_iff_ne, qsgn_zero, qsgn_le, qsgn_lt, qsgn_gt, qsgn_ge, Nat.reduceAdd, Nat.reduceSub, Nat.reduceMul, Int.reduceAdd, Int.reduceSub, Int.reduceToNat]
          and_intros
          all_goals first | with_reducible rfl | omega | assumption | exact .inl rfl | exact id | (grind)
        · rw [mx_let h3]
          refine MAt.ok (fuel := 60) (hs := [true, true, true, true, true, false, false]) S26_ok Tryz.func69 (by kernel_rfl) ?_
          simp (maxSteps := 10000000) only [Tryz.f69, go_sem, w1, w2, w3, h1, h2, h3, i0, i1, i2, im, decide_eq_true_eq, decide_eq_false_iff_not, ne_eq, not_true_eq_false, not_false_eq_true, Decidable.not_not, beq_iff_eq, beq_eq_false_iff_ne, bne_eq_false_iff_eq, bne_iff_ne, qsgn_zero, qsgn_le, qsgn_lt, qsgn_gt, qsgn_ge, Nat.reduceAdd, Nat.reduceSub, Nat.reduceMul, Int.reduceAdd, Int.reduceSub, Int.reduceToNat]
          and_intros
          all_goals first | with_reducible rfl | omega | assumption | exact .inl rfl | exact id | (grind)
      · rw [mx_let h2]
        by_cases h3 : b3 - a3 > 0
        · rw [mx_put h3]
          refine MAt.ok (fuel := 60) (hs := [true, true, true, false, true, true, false]) S26_ok Tryz.func69 (by kernel_rfl) ?_
          simp (maxSteps := 10000000) only [Tryz.f69, go_sem, w1, w2, w3, h1, h2, h3, i0, i1, i2, im, decide_eq_true_eq, decide_eq_false_iff_not, ne_eq, not_true_eq_false, not_false_eq_true, Decidable.not_not, beq_iff_eq, beq_eq_false_iff_ne, bne_eq_false_iff_eq, bne_iff_ne, qsgn_zero, qsgn_le, qsgn_lt, qsgn_gt, qsgn_ge, Nat.reduceAdd, Nat.reduceSub, Nat.reduceMul, Int.reduceAdd, Int.reduceSub, Int.reduceToNat]
          and_intros
          all_goals first | with_reducible rfl | omega | assumption | exact .inl rfl | exact id | (grind)
        · rw [mx_let h3]
          refine MAt.ok (fuel := 60) (hs := [true, true, true, false, true, false, false]) S26_ok Tryz.func69 (by kernel_rfl) ?_
          simp (maxSteps := 10000000) only [Tryz.f69, go_sem, w1, w2, w3, h1, h2, h3, i0, i1, i2, im, decide_eq_true_eq, decide_eq_false_iff_not, ne_eq, not_true_eq_false, not_false_eq_true, Decidable.not_not, beq_iff_eq, beq_eq_false_iff_ne, bne_eq_false_iff_eq, bne_iff_ne, qsgn_zero, qsgn_le, qsgn_lt, qsgn_gt, qsgn_ge, Nat.reduceAdd, Nat.reduceSub, Nat.reduceMul, Int.reduceAdd, Int.reduceSub, Int.reduceToNat]
          and_intros
          all_goals first | with_reducible rfl | omega | assumption | exact .inl rfl | exact id | (grind)
    · rw [mx_let h1]
      by_cases h2 : b2 - a2 > 0
      · rw [mx_put h2]
        by_cases h3 : b3 - a3 > 0
        · rw [mx_put h3]
          refine MAt.ok (fuel := 60) (hs := [true, false, true, true, true, true, false]) S26_ok Tryz.func69 (by kernel_rfl) ?_
          simp (maxSteps := 10000000) only [Tryz.f69, go_sem, w1, w2, w3, h1, h2, h3, i0, i1, i2, im, decide_eq_true_eq, decide_eq_false_iff_not, ne_eq, not_true_eq_false, not_false_eq_true, Decidable.not_not, beq_iff_eq, beq_eq_false_iff_ne, bne_eq_false_iff_eq, bne_iff_ne, qsgn_zero, qsgn_le, qsgn_lt, qsgn_gt, qsgn_ge, Nat.reduceAdd, Nat.reduceSub, Nat.reduceMul, Int.reduceAdd, Int.reduceSub, Int.reduceToNat]
          and_intros
          all_goals first | with_reducible rfl | omega | assumption | exact .inl rfl | exact id | (grind)
        · rw [mx_let h3]
          refine MAt.ok (fuel := 60) (hs := [true, false, true, true, true, false, false]) S26_ok Tryz.func69 (by kernel_rfl) ?_
          simp (maxSteps := 10000000) only [Tryz.f69, go_sem, w1, w2, w3, h1, h2, h3, i0, i1, i2, im, decide_eq_true_eq, decide_eq_false_iff_not, ne_eq, not_true_eq_false, not_false_eq_true, Decidable.not_not, beq_iff_eq, beq_eq_false_iff_ne, bne_eq_false_iff_eq, bne_iff_ne, qsgn_zero, qsgn_le, qsgn_lt, qsgn_gt, qsgn_ge, Nat.reduceAdd, Nat.reduceSub, Nat.reduceMul, Int.reduceAdd, Int.reduceSub, Int.reduceToNat]
          and_intros
          all_goals first | with_reducible rfl | omega | assumption | exact .inl rfl | exact id | (grind)
      · rw [mx_let h2]
        by_cases h3 : b3 - a3 > 0
        · rw [mx_put h3]
          refine MAt.ok (fuel := 60) (hs := [true, false, true, false, true, true, false]) S26_ok Tryz.func69 (by kernel_rfl) ?_
          simp (maxSteps := 10000000) only [Tryz.f69, go_sem, w1, w2, w3, h1, h2, h3, i0, i1, i2, im, decide_eq_true_eq, decide_eq_false_iff_not, ne_eq, not_true_eq_false, not_false_eq_true, Decidable.not_not, beq_iff_eq, beq_eq_false_iff_ne, bne_eq_false_iff_eq, bne_iff_ne, qsgn_zero, qsgn_le, qsgn_lt, qsgn_gt, qsgn_ge, Nat.reduceAdd, Nat.reduceSub, Nat.reduceMul, Int.reduceAdd, Int.reduceSub, Int.reduceToNat]
          and_intros
          all_goals first | with_reducible rfl | omega | assumption | exact .inl rfl | exact id | (grind)
        · rw [mx_let h3]
          refine MAt.ok (fuel := 60) (hs := [true, false, true, false, true, false, false]) S26_ok Tryz.func69 (by kernel_rfl) ?_
          simp (maxSteps := 10000000) only [Tryz.f69, go_sem, w1, w2, w3, h1, h2, h3, i0, i1, i2, im, decide_eq_true_eq, decide_eq_false_iff_not, ne_eq, not_true_eq_false, not_false_eq_true, Decidable.not_not, beq_iff_eq, beq_eq_false_iff_ne, bne_eq_false_iff_eq, bne_iff_ne, qsgn_zero, qsgn_le, qsgn_lt, qsgn_gt, qsgn_ge, Nat.reduceAdd, Nat.reduceSub, Nat.reduceMul, Int.reduceAdd, Int.reduceSub, Int.reduceToNat]
          and_intros
          all_goals first | with_reducible rfl | omega | assumption | exact .inl rfl | exact id | (grind)
  · cases h)
@[go_sem] def S27 : List Spec := sLower :: sRaise :: S26
theorem S27_ok : AllOk Tryz.prog S27 := ⟨sLower_ok, sRaise_ok, S26_ok⟩
end Go.Proofs.YtbobhhnhlgdkiaaGreat.Sy

/- package boxes: Join. -/
namespace Go.Proofs.YtbobhhnhlgdkiaaGreat.Sy
open Go Go.RowKit M Kahn
set_option maxRecDepth 1000000
set_option linter.unusedSimpArgs false
set_option linter.unusedVariables false

theorem jn_self (b : B6) : jn b b = b := by
  have h : ∀ a : Rat, mn a a = a := fun a => by unfold mn; split <;> rfl
  have k : ∀ a : Rat, mx a a = a := fun a => by unfold mx; split <;> rfl
  simp only [jn, h, k]
def joI (K : Nat) (bs : List B6) (i : Nat) : St := ⟨tmOf 46 [(2, .held (.inr (.inr (.inr (.inl (0, 0)))))), (3, .held (.inr (.inr (.inr (.inl (1, 0)))))), (4, .held (.inr (.inr (.inr (.inl (2, 0)))))), (26, .slice ((bs.map (eG encB K)).drop 1) []), (27, .held (.inr (.inl (.int .i64 ((bs.length - 1 : Nat) : Int))))), (28, .held (.inr (.inl (.int .i64 (i : Int)))))], [⟨28, [.held (.inl (0, 0, false)), .held (.inl (0, 0, false)), .held (.inl (0, 0, false)), .held (.inl (0, 0, false)), .held (.inl (0, 0, false)), .held (.inl (0, 0, false))], none⟩, ⟨49, [.held (.inl ((jns (bs.take (i + 1))).1.1, K, false)), .held (.inl ((jns (bs.take (i + 1))).1.2.1, K, false)), .held (.inl ((jns (bs.take (i + 1))).1.2.2, K, false))], none⟩, ⟨49, [.held (.inl ((jns (bs.take (i + 1))).2.1, K, false)), .held (.inl ((jns (bs.take (i + 1))).2.2.1, K, false)), .held (.inl ((jns (bs.take (i + 1))).2.2.2, K, false))], none⟩]⟩
def joO (K : Nat) (bs : List B6) (i : Nat) : Exit × St := (.exit 0, ⟨tmOf 46 [(2, .held (.inr (.inr (.inr (.inl (0, 0)))))), (3, .held (.inr (.inr (.inr (.inl (1, 0)))))), (4, .held (.inr (.inr (.inr (.inl (2, 0)))))), (26, .slice ((bs.map (eG encB K)).drop 1) []), (27, .held (.inr (.inl (.int .i64 ((bs.length - 1 : Nat) : Int))))), (28, .held (.inr (.inl (.int .i64 ((bs.length - 1) : Int)))))], [⟨28, [.held (.inl (0, 0, false)), .held (.inl (0, 0, false)), .held (.inl (0, 0, false)), .held (.inl (0, 0, false)), .held (.inl (0, 0, false)), .held (.inl (0, 0, false))], none⟩, ⟨49, [.held (.inl ((jns (bs.take ((bs.length - 1) + 1))).1.1, K, false)), .held (.inl ((jns (bs.take ((bs.length - 1) + 1))).1.2.1, K, false)), .held (.inl ((jns (bs.take ((bs.length - 1) + 1))).1.2.2, K, false))], none⟩, ⟨49, [.held (.inl ((jns (bs.take ((bs.length - 1) + 1))).2.1, K, false)), .held (.inl ((jns (bs.take ((bs.length - 1) + 1))).2.2.1, K, false)), .held (.inl ((jns (bs.take ((bs.length - 1) + 1))).2.2.2, K, false))], none⟩]⟩)
set_option maxHeartbeats 16000000 in
theorem jo_loop (K : Nat) (bs : List B6) (K1 : 1 ≤ K) (hK : 2 * K + 1 ≤ 4294967296) (hl : 1 ≤ bs.length) (hm : bs.length ≤ 4194304) : LoopsOk Tryz.f41 1 (lsp 0 [2, 3, 4, 26, 27, 28] (joI K bs (0)) (joO K bs (0)) :: []) := by
  refine LoopsOk.count S27_ok (by kernel_rfl) LoopsOk.nil 0 (by kernel_rfl) [2, 3, 4, 26, 27, 28] (0) ((bs.length - 1)) (joI K bs) (fun i => by rw [joI, tmOf_len]; kernel_rfl) (joO K bs) (fun i => by unfold joO; (repeat' split) <;> rw [tmOf_len] <;> kernel_rfl) (by omega) ?_
  intro b' c' hb' hc' i h1 h2
  simp only [Tryz.f41, Option.some.injEq] at hb'
  subst hb'
  simp only [blocksOf, getBlk, Nat.beq, List.cons_append, List.nil_append, Option.some.injEq, Code.loop.injEq] at hc'
  subst hc'
  have hn : ((i : Int)).toNat = i := Int.toNat_natCast i
  by_cases h : i < (bs.length - 1)
  · have hw : IntKind.i64.wrap ((i : Int) + 1) = ((i + 1 : Nat) : Int) := by rw [IntKind.wrap_i64]; omega
    obtain ⟨x, hx⟩ : ∃ x, bs[i + 1]? = some x := ⟨_, List.getElem?_eq_getElem (by omega)⟩
    have hv : ((bs.map (eG encB K)).drop 1)[i]? = some (.agg [.held (.inl (x.1.1, K, false)), .held (.inl (x.1.2.1, K, false)), .held (.inl (x.1.2.2, K, false)), .held (.inl (x.2.1, K, false)), .held (.inl (x.2.2.1, K, false)), .held (.inl (x.2.2.2, K, false))]) := by rw [List.getElem?_drop, Nat.add_comm 1 i, List.getElem?_map, hx]; rfl
    have hz : sized 18 ((bs.map (eG encB K)).drop 1) = true := by rw [← List.map_drop]; exact sized_eG (e := encB) (bs.drop 1)
    have hj := jns_take hx (by omega)
    have hO : joO K bs i = joO K bs (i + 1) := rfl
    refine ⟨60, [true], ?_⟩
    simp (maxSteps := 10000000) only [joI, go_sem, hn, hv, hz, hj, jn, hw, hO, Nat.max_self, Round, RoundI, reduceCtorEq, false_and, or_false, false_or, true_and, and_true, Bool.false_eq_true, decide_eq_true_eq, decide_eq_false_iff_not, decide_eq_true_eq, decide_eq_false_iff_not, ne_eq, not_true_eq_false, not_false_eq_true, Decidable.not_not, beq_iff_eq, beq_eq_false_iff_ne, bne_eq_false_iff_eq, bne_iff_ne, qsgn_zero, qsgn_le, qsgn_lt, qsgn_gt, qsgn_ge, Nat.reduceAdd, Nat.reduceSub, Nat.reduceMul, Int.reduceAdd, Int.reduceSub, Int.reduceToNat]
    and_intros
    all_goals first | with_reducible rfl | omega | assumption | exact .inl rfl | exact id | (grind)
  · have he : i = bs.length - 1 := by omega
    have hO : joO K bs (bs.length - 1) = (.exit 0, ⟨tmOf 46 [(2, .held (.inr (.inr (.inr (.inl (0, 0)))))), (3, .held (.inr (.inr (.inr (.inl (1, 0)))))), (4, .held (.inr (.inr (.inr (.inl (2, 0)))))), (26, .slice ((bs.map (eG encB K)).drop 1) []), (27, .held (.inr (.inl (.int .i64 ((bs.length - 1 : Nat) : Int))))), (28, .held (.inr (.inl (.int .i64 ((bs.length - 1) : Int)))))], [⟨28, [.held (.inl (0, 0, false)), .held (.inl (0, 0, false)), .held (.inl (0, 0, false)), .held (.inl (0, 0, false)), .held (.inl (0, 0, false)), .held (.inl (0, 0, false))], none⟩, ⟨49, [.held (.inl ((jns (bs.take ((bs.length - 1) + 1))).1.1, K, false)), .held (.inl ((jns (bs.take ((bs.length - 1) + 1))).1.2.1, K, false)), .held (.inl ((jns (bs.take ((bs.length - 1) + 1))).1.2.2, K, false))], none⟩, ⟨49, [.held (.inl ((jns (bs.take ((bs.length - 1) + 1))).2.1, K, false)), .held (.inl ((jns (bs.take ((bs.length - 1) + 1))).2.2.1, K, false)), .held (.inl ((jns (bs.take ((bs.length - 1) + 1))).2.2.2, K, false))], none⟩]⟩) := rfl
    refine ⟨60, [false], ?_⟩
    simp (maxSteps := 10000000) only [joI, go_sem, hn, he, hO, Round, RoundI, reduceCtorEq, false_and, or_false, false_or, true_and, and_true, Bool.false_eq_true, decide_eq_true_eq, decide_eq_false_iff_not, decide_eq_true_eq, decide_eq_false_iff_not, ne_eq, not_true_eq_false, not_false_eq_true, Decidable.not_not, beq_iff_eq, beq_eq_false_iff_ne, bne_eq_false_iff_eq, bne_iff_ne, qsgn_zero, qsgn_le, qsgn_lt, qsgn_gt, qsgn_ge, Nat.reduceAdd, Nat.reduceSub, Nat.reduceMul, Int.reduceAdd, Int.reduceSub, Int.reduceToNat]
    and_intros
    all_goals first | with_reducible rfl | omega | assumption | exact .inl rfl | exact id | (grind)
@[go_sem] def sBJoin : Spec := ⟨41, fun xs => match xs with
  | [x] => match rowG encB x with
    | some (bs, K) => some (⟨.inl (cn [(jns bs).1.1, (jns bs).1.2.1, (jns bs).1.2.2, (jns bs).2.1, (jns bs).2.2.1, (jns bs).2.2.2] (K))⟩, 1 ≤ K ∧ 2 * K + 1 ≤ 4294967296 ∧ bs.length ≤ 4194304)
    | _ => none
  | _ => none, nomem⟩
set_option maxHeartbeats 16000000 in
theorem sBJoin_ok : SpecOk Tryz.prog sBJoin := SpecOk.mk' Tryz.func41 (by kernel_rfl) (by kernel_rfl) (fun xs r p h hp => by
  simp only [sBJoin] at h
  split at h
  · split at h
    · rename_i x bs K hr
      cases h
      obtain ⟨K1, K2, hm⟩ := hp
      refine At.weak (ys := [.slice (bs.map (eG encB K)) []]) ?_ fun E w args ⟨v, r, e, h1, h2⟩ => ⟨v, r, e, rowG_mk hr h1, h2⟩
      by_cases h0 : bs.length = 0
      · obtain rfl := List.eq_nil_of_length_eq_zero h0
        simp only [jns]
        refine At.ok (fuel := 60) (hs := [true]) S27_ok Tryz.func41 (by kernel_rfl) ?_
        simp (maxSteps := 10000000) only [Tryz.f41, go_sem, List.map_nil, Nat.max_self, Nat.zero_max, decide_eq_true_eq, decide_eq_false_iff_not, ne_eq, not_true_eq_false, not_false_eq_true, Decidable.not_not, beq_iff_eq, beq_eq_false_iff_ne, bne_eq_false_iff_eq, bne_iff_ne, qsgn_zero, qsgn_le, qsgn_lt, qsgn_gt, qsgn_ge, Nat.reduceAdd, Nat.reduceSub, Nat.reduceMul, Int.reduceAdd, Int.reduceSub, Int.reduceToNat]
        try and_intros
        all_goals first | with_reducible rfl | omega | assumption | exact .inl rfl | exact id | (grind)
      · obtain ⟨x0, hx⟩ : ∃ x, bs[0]? = some x := ⟨_, List.getElem?_eq_getElem (by omega)⟩
        have hv : (bs.map (eG encB K))[0]? = some (.agg [.held (.inl (x0.1.1, K, false)), .held (.inl (x0.1.2.1, K, false)), .held (.inl (x0.1.2.2, K, false)), .held (.inl (x0.2.1, K, false)), .held (.inl (x0.2.2.1, K, false)), .held (.inl (x0.2.2.2, K, false))]) := by rw [List.getElem?_map, hx]; rfl
        have hz : sized 18 (bs.map (eG encB K)) = true := sized_eG (e := encB) bs
        have hj : jns (bs.take 1) = x0 := by rw [jns_one hx, jn_self]
        have hmx : max K 1 = K := Nat.max_eq_left K1
        have hf : ((bs.length : Int) == 0) = false := by rw [beq_eq_false_iff_ne]; omega
        have ht : bs.take (bs.length - 1 + 1) = bs := by rw [Nat.sub_add_cancel (by omega), List.take_length]
        have hd : (List.take ((bs.length : Int)).toNat (bs.map (eG encB K))).drop 1 = (bs.map (eG encB K)).drop 1 := by rw [List.take_of_length_le (by simp)]
        have hl : (bs.length : Int) - 1 = ((bs.length - 1 : Nat) : Int) := by omega
        refine At.okL (fuel := 60) (hs := [false]) S27_ok Tryz.func41 (by kernel_rfl) (jo_loop K bs K1 K2 (by omega) hm) ?_
        simp (maxSteps := 10000000) only [Tryz.f41, go_sem, List.length_map, List.length_drop, hv, hz, hj, hmx, hf, ht, hd, hl, joI, joO, Round, RoundI, reduceCtorEq, false_and, or_false, false_or, true_and, and_true, Bool.false_eq_true, decide_eq_true_eq, decide_eq_false_iff_not, decide_eq_true_eq, decide_eq_false_iff_not, ne_eq, not_true_eq_false, not_false_eq_true, Decidable.not_not, beq_iff_eq, beq_eq_false_iff_ne, bne_eq_false_iff_eq, bne_iff_ne, qsgn_zero, qsgn_le, qsgn_lt, qsgn_gt, qsgn_ge, Nat.reduceAdd, Nat.reduceSub, Nat.reduceMul, Int.reduceAdd, Int.reduceSub, Int.reduceToNat]
        and_intros
        all_goals first | with_reducible rfl | omega | assumption | exact .inl rfl | exact id | (grind)
    · cases h
  · cases h)
@[go_sem] def S28 : List Spec := sBJoin :: S27
theorem S28_ok : AllOk Tryz.prog S28 := ⟨sBJoin_ok, S27_ok⟩
end Go.Proofs.YtbobhhnhlgdkiaaGreat.Sy

/- package boxes: Around. -/
namespace Go.Proofs.YtbobhhnhlgdkiaaGreat.Sy
open Go Go.RowKit M Kahn
set_option maxRecDepth 1000000
set_option linter.unusedSimpArgs false
set_option linter.unusedVariables false

def arI (K : Nat) (vs : List V3) (i : Nat) : St := ⟨tmOf 25 [(0, .slice (vs.map (eG encV K)) []), (2, .held (.inr (.inr (.inr (.inl (0, 0)))))), (3, .held (.inr (.inr (.inl 1)))), (9, .slice (vs.map (eG encV K)) []), (10, .held (.inr (.inl (.int .i64 (vs.length : Int))))), (11, .held (.inr (.inl (.int .i64 (i : Int)))))], [⟨28, [.held (.inl (0, 0, false)), .held (.inl (0, 0, false)), .held (.inl (0, 0, false)), .held (.inl (0, 0, false)), .held (.inl (0, 0, false)), .held (.inl (0, 0, false))], none⟩, ⟨28, (((vs.take (i)).map dbl).map (eG encB K) ++ List.replicate (vs.length - (i)) (.agg [.held (.inl (0, 0, false)), .held (.inl (0, 0, false)), .held (.inl (0, 0, false)), .held (.inl (0, 0, false)), .held (.inl (0, 0, false)), .held (.inl (0, 0, false))] : D)), some 18⟩]⟩
def arO (K : Nat) (vs : List V3) (i : Nat) : Exit × St := (.exit 0, ⟨tmOf 25 [(0, .slice (vs.map (eG encV K)) []), (2, .held (.inr (.inr (.inr (.inl (0, 0)))))), (3, .held (.inr (.inr (.inl 1)))), (9, .slice (vs.map (eG encV K)) []), (10, .held (.inr (.inl (.int .i64 (vs.length : Int))))), (11, .held (.inr (.inl (.int .i64 (vs.length : Int)))))], [⟨28, [.held (.inl (0, 0, false)), .held (.inl (0, 0, false)), .held (.inl (0, 0, false)), .held (.inl (0, 0, false)), .held (.inl (0, 0, false)), .held (.inl (0, 0, false))], none⟩, ⟨28, (((vs.take (vs.length)).map dbl).map (eG encB K) ++ List.replicate (vs.length - (vs.length)) (.agg [.held (.inl (0, 0, false)), .held (.inl (0, 0, false)), .held (.inl (0, 0, false)), .held (.inl (0, 0, false)), .held (.inl (0, 0, false)), .held (.inl (0, 0, false))] : D)), some 18⟩]⟩)
set_option maxHeartbeats 16000000 in
theorem ar_loop (K : Nat) (vs : List V3) (K1 : 1 ≤ K) (hm : vs.length ≤ 4194304) : LoopsOk Tryz.f12 1 (lsp 0 [0, 2, 3, 9, 10, 11] (arI K vs (0)) (arO K vs (0)) :: []) := by
  refine LoopsOk.count S28_ok (by kernel_rfl) LoopsOk.nil 0 (by kernel_rfl) [0, 2, 3, 9, 10, 11] (0) (vs.length) (arI K vs) (fun i => by rw [arI, tmOf_len]; kernel_rfl) (arO K vs) (fun i => by unfold arO; (repeat' split) <;> rw [tmOf_len] <;> kernel_rfl) (by omega) ?_
  intro b' c' hb' hc' i h1 h2
  simp only [Tryz.f12, Option.some.injEq] at hb'
  subst hb'
  simp only [blocksOf, getBlk, Nat.beq, List.cons_append, List.nil_append, Option.some.injEq, Code.loop.injEq] at hc'
  subst hc'
  have hn : ((i : Int)).toNat = i := Int.toNat_natCast i
  by_cases h : i < vs.length
  · have hw : IntKind.i64.wrap ((i : Int) + 1) = ((i + 1 : Nat) : Int) := by rw [IntKind.wrap_i64]; omega
    obtain ⟨x, hx⟩ : ∃ x, vs[i]? = some x := ⟨_, List.getElem?_eq_getElem h⟩
    have hv : (vs.map (eG encV K))[i]? = some (.agg [.held (.inl (x.1, K, false)), .held (.inl (x.2.1, K, false)), .held (.inl (x.2.2, K, false))]) := by rw [List.getElem?_map, hx]; rfl
    have hz : sized 9 (vs.map (eG encV K)) = true := sized_eG (e := encV) vs
    have hlt : ((vs.take i).map dbl).length = i := by rw [List.length_map, List.length_take]; omega
    have hlr : (((vs.take (i)).map dbl).map (eG encB K) ++ List.replicate (vs.length - (i)) (.agg [.held (.inl (0, 0, false)), .held (.inl (0, 0, false)), .held (.inl (0, 0, false)), .held (.inl (0, 0, false)), .held (.inl (0, 0, false)), .held (.inl (0, 0, false))] : D)).length = vs.length := by rw [List.length_append, List.length_map, hlt, List.length_replicate]; omega
    have hr0 : List.replicate (vs.length - i) (.agg [.held (.inl (0, 0, false)), .held (.inl (0, 0, false)), .held (.inl (0, 0, false)), .held (.inl (0, 0, false)), .held (.inl (0, 0, false)), .held (.inl (0, 0, false))] : D) = (.agg [.held (.inl (0, 0, false)), .held (.inl (0, 0, false)), .held (.inl (0, 0, false)), .held (.inl (0, 0, false)), .held (.inl (0, 0, false)), .held (.inl (0, 0, false))] : D) :: List.replicate (vs.length - (i + 1)) (.agg [.held (.inl (0, 0, false)), .held (.inl (0, 0, false)), .held (.inl (0, 0, false)), .held (.inl (0, 0, false)), .held (.inl (0, 0, false)), .held (.inl (0, 0, false))] : D) := by rw [show vs.length - i = (vs.length - (i + 1)) + 1 from by omega, List.replicate_succ]
    have hg : (((vs.take (i)).map dbl).map (eG encB K) ++ List.replicate (vs.length - (i)) (.agg [.held (.inl (0, 0, false)), .held (.inl (0, 0, false)), .held (.inl (0, 0, false)), .held (.inl (0, 0, false)), .held (.inl (0, 0, false)), .held (.inl (0, 0, false))] : D))[i]? = some (.agg [.held (.inl (0, 0, false)), .held (.inl (0, 0, false)), .held (.inl (0, 0, false)), .held (.inl (0, 0, false)), .held (.inl (0, 0, false)), .held (.inl (0, 0, false))] : D) := by rw [List.getElem?_append_right (by rw [List.length_map, hlt]; exact Nat.le_refl _), List.length_map, hlt, Nat.sub_self, hr0]; rfl
    have ha : (((vs.take (i)).map dbl).map (eG encB K) ++ List.replicate (vs.length - (i)) (.agg [.held (.inl (0, 0, false)), .held (.inl (0, 0, false)), .held (.inl (0, 0, false)), .held (.inl (0, 0, false)), .held (.inl (0, 0, false)), .held (.inl (0, 0, false))] : D)).set i (.agg [.held (.inl (x.1, K, false)), .held (.inl (x.2.1, K, false)), .held (.inl (x.2.2, K, false)), .held (.inl (x.1, K, false)), .held (.inl (x.2.1, K, false)), .held (.inl (x.2.2, K, false))] : D) = (((vs.take (i + 1)).map dbl).map (eG encB K) ++ List.replicate (vs.length - (i + 1)) (.agg [.held (.inl (0, 0, false)), .held (.inl (0, 0, false)), .held (.inl (0, 0, false)), .held (.inl (0, 0, false)), .held (.inl (0, 0, false)), .held (.inl (0, 0, false))] : D)) := by
      rw [List.set_append_right i _ (by rw [List.length_map, hlt]; exact Nat.le_refl _), List.length_map, hlt, Nat.sub_self, hr0, List.set_cons_zero, List.take_add_one, hx, List.map_append, List.map_append, List.append_assoc]
      rfl
    have hO : arO K vs i = arO K vs (i + 1) := rfl
    clear hr0
    generalize hR : (((vs.take (i)).map dbl).map (eG encB K) ++ List.replicate (vs.length - (i)) (.agg [.held (.inl (0, 0, false)), .held (.inl (0, 0, false)), .held (.inl (0, 0, false)), .held (.inl (0, 0, false)), .held (.inl (0, 0, false)), .held (.inl (0, 0, false))] : D)) = R at hlr hg ha
    generalize hR1 : (((vs.take (i + 1)).map dbl).map (eG encB K) ++ List.replicate (vs.length - (i + 1)) (.agg [.held (.inl (0, 0, false)), .held (.inl (0, 0, false)), .held (.inl (0, 0, false)), .held (.inl (0, 0, false)), .held (.inl (0, 0, false)), .held (.inl (0, 0, false))] : D)) = R1 at ha
    refine ⟨60, [true], ?_⟩
    simp (maxSteps := 10000000) only [arI, go_sem, hn, List.length_map, hv, hz, hR, hR1, hlr, hg, ha, hw, hO, Round, RoundI, reduceCtorEq, false_and, or_false, false_or, true_and, and_true, Bool.false_eq_true, decide_eq_true_eq, decide_eq_false_iff_not, decide_eq_true_eq, decide_eq_false_iff_not, ne_eq, not_true_eq_false, not_false_eq_true, Decidable.not_not, beq_iff_eq, beq_eq_false_iff_ne, bne_eq_false_iff_eq, bne_iff_ne, qsgn_zero, qsgn_le, qsgn_lt, qsgn_gt, qsgn_ge, Nat.reduceAdd, Nat.reduceSub, Nat.reduceMul, Int.reduceAdd, Int.reduceSub, Int.reduceToNat]
    and_intros
    all_goals first | with_reducible rfl | omega | assumption | exact .inl rfl | exact id | (grind)
  · have he : i = vs.length := by omega
    have hO : arO K vs vs.length = (.exit 0, ⟨tmOf 25 [(0, .slice (vs.map (eG encV K)) []), (2, .held (.inr (.inr (.inr (.inl (0, 0)))))), (3, .held (.inr (.inr (.inl 1)))), (9, .slice (vs.map (eG encV K)) []), (10, .held (.inr (.inl (.int .i64 (vs.length : Int))))), (11, .held (.inr (.inl (.int .i64 (vs.length : Int)))))], [⟨28, [.held (.inl (0, 0, false)), .held (.inl (0, 0, false)), .held (.inl (0, 0, false)), .held (.inl (0, 0, false)), .held (.inl (0, 0, false)), .held (.inl (0, 0, false))], none⟩, ⟨28, (((vs.take (vs.length)).map dbl).map (eG encB K) ++ List.replicate (vs.length - (vs.length)) (.agg [.held (.inl (0, 0, false)), .held (.inl (0, 0, false)), .held (.inl (0, 0, false)), .held (.inl (0, 0, false)), .held (.inl (0, 0, false)), .held (.inl (0, 0, false))] : D)), some 18⟩]⟩) := rfl
    refine ⟨60, [false], ?_⟩
    simp (maxSteps := 10000000) only [arI, go_sem, hn, he, hO, List.length_map, Round, RoundI, reduceCtorEq, false_and, or_false, false_or, true_and, and_true, Bool.false_eq_true, decide_eq_true_eq, decide_eq_false_iff_not, decide_eq_true_eq, decide_eq_false_iff_not, ne_eq, not_true_eq_false, not_false_eq_true, Decidable.not_not, beq_iff_eq, beq_eq_false_iff_ne, bne_eq_false_iff_eq, bne_iff_ne, qsgn_zero, qsgn_le, qsgn_lt, qsgn_gt, qsgn_ge, Nat.reduceAdd, Nat.reduceSub, Nat.reduceMul, Int.reduceAdd, Int.reduceSub, Int.reduceToNat]
    and_intros
    all_goals first | with_reducible rfl | omega | assumption | exact .inl rfl | exact id | (grind)
@[go_sem] def sBAround : Spec := ⟨12, fun xs => match xs with
  | [x] => match rowG encV x with
    | some (vs, K) => some (⟨.inl (cn [(jns (vs.map dbl)).1.1, (jns (vs.map dbl)).1.2.1, (jns (vs.map dbl)).1.2.2, (jns (vs.map dbl)).2.1, (jns (vs.map dbl)).2.2.1, (jns (vs.map dbl)).2.2.2] (K))⟩, 1 ≤ K ∧ 2 * K + 1 ≤ 4294967296 ∧ vs.length ≤ 4194304)
    | _ => none
  | _ => none, nomem⟩
set_option maxHeartbeats 16000000 in
theorem sBAround_ok : SpecOk Tryz.prog sBAround := SpecOk.mk' Tryz.func12 (by kernel_rfl) (by kernel_rfl) (fun xs r p h hp => by
  simp only [sBAround] at h
  split at h
  · split at h
    · rename_i x vs K hr
      cases h
      obtain ⟨K1, K2, hm⟩ := hp
      refine At.weak (ys := [.slice (vs.map (eG encV K)) []]) ?_ fun E w args ⟨v, r, e, h1, h2⟩ => ⟨v, r, e, rowG_mk hr h1, h2⟩
      obtain ⟨K', hk1, hk2, hrow⟩ := rowG_map (e := encB) (sp := []) (by decide) K1 (vs.map dbl)
      simp only [rowG] at hrow
      have hn : ((vs.length : Int)).toNat = vs.length := Int.toNat_natCast _
      have hr1 : ∀ z : D, List.replicate (vs.length - vs.length) z = [] := fun z => by rw [Nat.sub_self]; rfl
      have hr2 : ∀ z : D, List.replicate (vs.length - 0) z = List.replicate vs.length z := fun z => rfl
      refine At.okL (fuel := 60) (hs := []) S28_ok Tryz.func12 (by kernel_rfl) (ar_loop K vs K1 hm) ?_
      simp (maxSteps := 10000000) only [Tryz.f12, go_sem, List.length_map, List.take_length, List.take_zero, List.map_nil, rowG, hrow, hn, hr1, hr2, arI, arO, Round, RoundI, reduceCtorEq, false_and, or_false, false_or, true_and, and_true, Bool.false_eq_true, decide_eq_true_eq, decide_eq_false_iff_not, decide_eq_true_eq, decide_eq_false_iff_not, ne_eq, not_true_eq_false, not_false_eq_true, Decidable.not_not, beq_iff_eq, beq_eq_false_iff_ne, bne_eq_false_iff_eq, bne_iff_ne, qsgn_zero, qsgn_le, qsgn_lt, qsgn_gt, qsgn_ge, Nat.reduceAdd, Nat.reduceSub, Nat.reduceMul, Int.reduceAdd, Int.reduceSub, Int.reduceToNat]
      and_intros
      all_goals first | with_reducible rfl | omega | assumption | exact .inl rfl | exact id | (grind)
    · cases h
  · cases h)
@[go_sem] def S29 : List Spec := sBAround :: S28
theorem S29_ok : AllOk Tryz.prog S29 := ⟨sBAround_ok, S28_ok⟩
end Go.Proofs.YtbobhhnhlgdkiaaGreat.Sy
