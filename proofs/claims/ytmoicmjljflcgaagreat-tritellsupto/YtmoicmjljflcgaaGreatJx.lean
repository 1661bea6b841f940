/- vec.Sum, as the runs take it. -/
import Derived.Test.YtmoicmjljflcgaaGreatJw
import Derived.Test.YtmoicmjljflcgaaGreatJs
import Derived.Test.YtmoicmjljflcgaaGreatJq
namespace Go.Proofs.YtmoicmjljflcgaaGreat.Sym
open Go Go.RowKit M Kahn
set_option maxRecDepth 100000

/-- Lists of Vecs. -/
def rowVL : List (List Lf) → Option (List Rat × List Rat × List Rat × Nat)
  | [] => some ([], [], [], 1)
  | l :: r => match ratsL l, rowVL r with
    | some ([a, b, c], K), some (ps, qs, rs, M) => some (a :: ps, b :: qs, c :: rs, max K M)
    | _, _ => none
def rowV : BV → Option (List Rat × List Rat × List Rat × Nat)
  | ⟨some (.inr (.inr (.inr (.inr ls))))⟩ => rowVL ls
  | ⟨some (.inl (.slice none 0 0))⟩ => some ([], [], [], 1)
  | _ => none
theorem rowVL_is {u : World} : ∀ {ls : List (List Lf)} {ps qs rs : List Rat} {K : Nat} {vs : List Value}, rowVL ls = some (ps, qs, rs, K) → Cells u ls.flatten vs →
    ∃ ts : List TP, vs = TP.all ts ∧ ts.length = ls.length ∧ RL u K (ts.map TP.x) ps ∧ RL u K (ts.map TP.y) qs ∧ RL u K (ts.map TP.z) rs ∧ ps.length = ls.length
  | [], _, _, _, _, _, h, hc => by
    simp only [rowVL] at h; cases h; cases hc
    exact ⟨[], rfl, rfl, trivial, trivial, trivial, rfl⟩
  | l :: r, _, _, _, _, _, h, hc => by
    simp only [rowVL] at h
    split at h
    · rename_i a b c K ps qs rs M h1 h2
      cases h
      rw [List.flatten_cons] at hc
      obtain ⟨v1, v2, rfl, c1, c2⟩ := Cells.app.1 hc
      obtain ⟨xs, rfl, k1⟩ := ratsL_is h1 c1
      obtain ⟨ts, rfl, e1, e2, e3, e4, e5⟩ := rowVL_is h2 c2
      match xs, k1 with
      | [x, y, z], ⟨k1, k2, k3, _⟩ =>
        exact ⟨⟨x, y, z⟩ :: ts, rfl, by simp [e1], ⟨k1.mono (Nat.le_max_left _ _), RL.monoK (Nat.le_max_right _ _) e2⟩, ⟨k2.mono (Nat.le_max_left _ _), RL.monoK (Nat.le_max_right _ _) e3⟩, ⟨k3.mono (Nat.le_max_left _ _), RL.monoK (Nat.le_max_right _ _) e4⟩, by simp [e5]⟩
    · cases h
theorem rowV_is {β : Nat → Option Nat} {u : World} {b : BV} {ps qs rs : List Rat} {K : Nat} {v : Value} (h : rowV b = some (ps, qs, rs, K)) (hi : b.Is β u v) : VW ps qs rs K v u := by
  unfold rowV at h
  split at h
  · rename_i ls
    obtain ⟨ao, cap, e, hcap, hth⟩ := hi
    by_cases h0 : 0 < ls.length
    · obtain ⟨b, o, vs, rfl, ho, hc, hr⟩ := hth h0
      obtain ⟨ts, rfl, e1, e2, e3, e4, e5⟩ := rowVL_is h hc
      exact ⟨_, cap, ts, by rw [e, e5], by omega, e2, e3, e4, fun _ => ⟨b, o, rfl, ho.1, hr⟩⟩
    · have : ls = [] := List.eq_nil_of_length_eq_zero (by omega)
      subst this
      simp only [rowVL] at h; cases h
      exact ⟨ao, cap, [], e, Nat.zero_le _, trivial, trivial, trivial, fun h => absurd h (Nat.lt_irrefl _)⟩
  · cases h
    have hi : v = .slice none 0 0 := hi
    rw [hi]
    exact VW.nil _ _
  · cases h
@[go_sem] def sVSum : Spec := ⟨33, fun xs => match xs with
  | [x] => match rowV x with
    | some (ps, qs, rs, K) => some (⟨.inl (cn [sumL ps, sumL qs, sumL rs] (ps.length * (K + 1) + 1))⟩, 1 ≤ K ∧ (ps.length + 1) * (K + 1) ≤ 4294967296 ∧ ps.length ≤ 3)
    | _ => none
  | _ => none⟩
theorem gv_is {w w' : World} {K : Nat} {p q r : Rat} {e : Ending} (h : Gv3 w K p q r e w') : ∃ v, e = .returned v ∧ AV.Is nob w' ⟨.inl (cn [p, q, r] K)⟩ v ∧ Below w.heap.size w w' := by
  obtain ⟨a, b, c, h1, h2, h3⟩ := h
  exact ⟨_, h1, ⟨_, rfl, a.cells, b.cells ++ (c.cells ++ []), rfl, ⟨a, rfl, h2.x⟩, b.cells, c.cells ++ [], rfl, ⟨b, rfl, h2.y⟩, c.cells, [], rfl, ⟨c, rfl, h2.z⟩, rfl⟩, h3⟩
theorem sVSum_ok : SpecOk Tryz.prog sVSum := SpecOk.mk' Tryz.func33 (by kernel_rfl) (by kernel_rfl) (fun xs r p h hp => by
  simp only [sVSum] at h
  split at h
  · split at h
    · rename_i hr
      cases h
      intro w args ha
      obtain ⟨v, _, rfl, h1, rfl⟩ := ha
      refine Calls.mono (vsum_k (rowV_is hr h1) hp.1 hp.2.1 hp.2.2) fun e w' h => ?_
      rw [sumL_is, sumL_is, sumL_is] at h
      exact gv_is h
    · cases h
  · cases h)
attribute [go_sem] rowV rowVL
end Go.Proofs.YtmoicmjljflcgaaGreat.Sym

/- Package vec, and penumbraref05, by runs. -/
namespace Go.Proofs.YtmoicmjljflcgaaGreat.Sym
open Go Go.RowKit M Kahn
set_option maxRecDepth 1000000
set_option linter.unusedSimpArgs false
set_option linter.unusedVariables false

@[go_sem] def sLess : Spec := spN 63 fun l => match l with
  | [([a], K), ([b], L), ([c], M), ([d], N)] => some (⟨.inl (cn [a * b - c * d] (2 * max K L + 2 * max M N + 3))⟩, 1 ≤ K ∧ 1 ≤ L ∧ 1 ≤ M ∧ 1 ≤ N ∧ 2 * max K L + 2 * max M N + 3 ≤ 1073741824)
  | _ => none
set_option maxHeartbeats 8000000 in
theorem sLess_ok : SpecOk Tryz.prog sLess := SpecOk.mk' Tryz.func63 (by kernel_rfl) (by kernel_rfl) (spN_at fun l r p h hp => by
  split at h
  · cases h
    refine At.ok (fuel := 60) (hs := []) S0_ok Tryz.func63 (by kernel_rfl) ?_
    simp only [Tryz.f63, go_sem, Nat.reduceAdd, Nat.reduceSub, Nat.reduceMul, Int.reduceAdd, Int.reduceSub, Int.reduceToNat]
    omega
  · cases h)
@[go_sem] def sVOf : Spec := ⟨25, fun xs => match xs with
  | [⟨some (.inl (.int .i64 x))⟩, ⟨some (.inl (.int .i64 y))⟩, ⟨some (.inl (.int .i64 z))⟩] => some (⟨.inl (cn [(x : Rat) / ((1 : Int) : Rat), (y : Rat) / ((1 : Int) : Rat), (z : Rat) / ((1 : Int) : Rat)] (2))⟩, (-9223372036854775808 ≤ x ∧ x ≤ 9223372036854775807) ∧ (-9223372036854775808 ≤ y ∧ y ≤ 9223372036854775807) ∧ -9223372036854775808 ≤ z ∧ z ≤ 9223372036854775807)
  | _ => none⟩
set_option maxHeartbeats 8000000 in
theorem sVOf_ok : SpecOk Tryz.prog sVOf := SpecOk.mk' Tryz.func25 (by kernel_rfl) (by kernel_rfl) (fun xs r p h hp => by
  simp only [sVOf] at h
  split at h
  · cases h
    refine At.ok (fuel := 60) (hs := []) S0_ok Tryz.func25 (by kernel_rfl) ?_
    simp only [Tryz.f25, go_sem, Nat.reduceAdd, Nat.reduceSub, Nat.reduceMul, Int.reduceAdd, Int.reduceSub, Int.reduceToNat]
    omega
  · cases h)
@[go_sem] def sVSub : Spec := spN 38 fun l => match l with
  | [([a1, a2, a3], K), ([b1, b2, b3], L)] => some (⟨.inl (cn [a1 - b1, a2 - b2, a3 - b3] (K + L + 1))⟩, 1 ≤ K ∧ 1 ≤ L ∧ K + L + 1 ≤ 1073741824)
  | _ => none
set_option maxHeartbeats 8000000 in
theorem sVSub_ok : SpecOk Tryz.prog sVSub := SpecOk.mk' Tryz.func38 (by kernel_rfl) (by kernel_rfl) (spN_at fun l r p h hp => by
  split at h
  · cases h
    refine At.ok (fuel := 60) (hs := []) S0_ok Tryz.func38 (by kernel_rfl) ?_
    simp only [Tryz.f38, go_sem, Nat.reduceAdd, Nat.reduceSub, Nat.reduceMul, Int.reduceAdd, Int.reduceSub, Int.reduceToNat]
    omega
  · cases h)
@[go_sem] def sVScale : Spec := spN 34 fun l => match l with
  | [([k], K), ([a1, a2, a3], L)] => some (⟨.inl (cn [k * a1, k * a2, k * a3] (K + L))⟩, 1 ≤ K ∧ 1 ≤ L ∧ 3 * max K L + 3 ≤ 4294967296)
  | _ => none
set_option maxHeartbeats 8000000 in
theorem sVScale_ok : SpecOk Tryz.prog sVScale := SpecOk.mk' Tryz.func34 (by kernel_rfl) (by kernel_rfl) (spN_at fun l r p h hp => by
  split at h
  · rename_i k K a1 a2 a3 L
    cases h
    refine At.okT (fuel := 60) (hs := []) S0_ok Tryz.func34 (by kernel_rfl) ?_
    simp only [Tryz.f34, go_sem, Nat.reduceAdd, Nat.reduceSub, Nat.reduceMul, Int.reduceAdd, Int.reduceSub, Int.reduceToNat]
    rintro ⟨d_k, ⟨d_a1, d_a2, d_a3⟩⟩
    replace d_k := d_k (by omega)
    replace d_a1 := d_a1 (by omega)
    replace d_a2 := d_a2 (by omega)
    replace d_a3 := d_a3 (by omega)
    and_intros
    all_goals first | with_reducible rfl | omega | (show Bd _ _; refine Bd.mono (by repeat' (with_reducible first | apply Bd.add | apply Bd.sub | apply Bd.mul | apply Bd.div | apply Bd.neg | apply Bd.ite | exact Bd.zero | exact Bd.one | exact Bd.two | assumption)) ?_; omega) | (first | with_reducible rfl | grind)
  · cases h)
@[go_sem] def sVDot : Spec := spN 37 fun l => match l with
  | [([a1, a2, a3], K), ([b1, b2, b3], L)] => some (⟨.inl (cn [a1 * b1 + a2 * b2 + a3 * b3] (3 * (K + L) + 2))⟩, 1 ≤ K ∧ 1 ≤ L ∧ 8 * max K L + 8 ≤ 1073741824)
  | _ => none
set_option maxHeartbeats 8000000 in
theorem sVDot_ok : SpecOk Tryz.prog sVDot := SpecOk.mk' Tryz.func37 (by kernel_rfl) (by kernel_rfl) (spN_at fun l r p h hp => by
  split at h
  · rename_i a1 a2 a3 K b1 b2 b3 L
    cases h
    refine At.okT (fuel := 60) (hs := []) S0_ok Tryz.func37 (by kernel_rfl) ?_
    simp only [Tryz.f37, go_sem, Nat.reduceAdd, Nat.reduceSub, Nat.reduceMul, Int.reduceAdd, Int.reduceSub, Int.reduceToNat]
    rintro ⟨⟨d_a1, d_a2, d_a3⟩, ⟨d_b1, d_b2, d_b3⟩⟩
    replace d_a1 := d_a1 (by omega)
    replace d_a2 := d_a2 (by omega)
    replace d_a3 := d_a3 (by omega)
    replace d_b1 := d_b1 (by omega)
    replace d_b2 := d_b2 (by omega)
    replace d_b3 := d_b3 (by omega)
    and_intros
    all_goals first | with_reducible rfl | omega | (show Bd _ _; refine Bd.mono (by repeat' (with_reducible first | apply Bd.add | apply Bd.sub | apply Bd.mul | apply Bd.div | apply Bd.neg | apply Bd.ite | exact Bd.zero | exact Bd.one | exact Bd.two | assumption)) ?_; omega) | (first | with_reducible rfl | grind)
  · cases h)
@[go_sem] def s5Of : Spec := ⟨27, fun xs => match xs with
  | [⟨some (.inl (.int .i64 x))⟩, ⟨some (.inl (.int .i64 y))⟩, ⟨some (.inl (.int .i64 z))⟩] => some (⟨.inl (cn [(x : Rat) / ((1 : Int) : Rat), (y : Rat) / ((1 : Int) : Rat), (z : Rat) / ((1 : Int) : Rat)] (2))⟩, (-9223372036854775808 ≤ x ∧ x ≤ 9223372036854775807) ∧ (-9223372036854775808 ≤ y ∧ y ≤ 9223372036854775807) ∧ -9223372036854775808 ≤ z ∧ z ≤ 9223372036854775807)
  | _ => none⟩
set_option maxHeartbeats 8000000 in
theorem s5Of_ok : SpecOk Tryz.prog s5Of := SpecOk.mk' Tryz.func27 (by kernel_rfl) (by kernel_rfl) (fun xs r p h hp => by
  simp only [s5Of] at h
  split at h
  · cases h
    refine At.ok (fuel := 60) (hs := []) S0_ok Tryz.func27 (by kernel_rfl) ?_
    simp only [Tryz.f27, go_sem, Nat.reduceAdd, Nat.reduceSub, Nat.reduceMul, Int.reduceAdd, Int.reduceSub, Int.reduceToNat]
    omega
  · cases h)
@[go_sem] def s5Zero : Spec := ⟨58, fun xs => match xs with
  | [] => some (⟨.inl (cn [0, 0, 0] (1))⟩, True)
  | _ => none⟩
set_option maxHeartbeats 8000000 in
theorem s5Zero_ok : SpecOk Tryz.prog s5Zero := SpecOk.mk' Tryz.func58 (by kernel_rfl) (by kernel_rfl) (fun xs r p h hp => by
  simp only [s5Zero] at h
  split at h
  · cases h
    refine At.ok (fuel := 60) (hs := []) S0_ok Tryz.func58 (by kernel_rfl) ?_
    simp only [Tryz.f58, go_sem, Nat.reduceAdd, Nat.reduceSub, Nat.reduceMul, Int.reduceAdd, Int.reduceSub, Int.reduceToNat]
    omega
  · cases h)
@[go_sem] def s5Add : Spec := spN 35 fun l => match l with
  | [([a1, a2, a3], K), ([b1, b2, b3], L)] => some (⟨.inl (cn [a1 + b1, a2 + b2, a3 + b3] (K + L + 1))⟩, 1 ≤ K ∧ 1 ≤ L ∧ K + L + 1 ≤ 17179869184)
  | _ => none
set_option maxHeartbeats 8000000 in
theorem s5Add_ok : SpecOk Tryz.prog s5Add := SpecOk.mk' Tryz.func35 (by kernel_rfl) (by kernel_rfl) (spN_at fun l r p h hp => by
  split at h
  · cases h
    refine At.ok (fuel := 60) (hs := []) S0_ok Tryz.func35 (by kernel_rfl) ?_
    simp only [Tryz.f35, go_sem, Nat.reduceAdd, Nat.reduceSub, Nat.reduceMul, Int.reduceAdd, Int.reduceSub, Int.reduceToNat]
    omega
  · cases h)
@[go_sem] def s5Sub : Spec := spN 31 fun l => match l with
  | [([a1, a2, a3], K), ([b1, b2, b3], L)] => some (⟨.inl (cn [a1 - b1, a2 - b2, a3 - b3] (K + L + 1))⟩, 1 ≤ K ∧ 1 ≤ L ∧ K + L + 1 ≤ 17179869184)
  | _ => none
set_option maxHeartbeats 8000000 in
theorem s5Sub_ok : SpecOk Tryz.prog s5Sub := SpecOk.mk' Tryz.func31 (by kernel_rfl) (by kernel_rfl) (spN_at fun l r p h hp => by
  split at h
  · cases h
    refine At.ok (fuel := 60) (hs := []) S0_ok Tryz.func31 (by kernel_rfl) ?_
    simp only [Tryz.f31, go_sem, Nat.reduceAdd, Nat.reduceSub, Nat.reduceMul, Int.reduceAdd, Int.reduceSub, Int.reduceToNat]
    omega
  · cases h)
@[go_sem] def s5Scale : Spec := spN 36 fun l => match l with
  | [([k], K), ([a1, a2, a3], L)] => some (⟨.inl (cn [k * a1, k * a2, k * a3] (K + L))⟩, 1 ≤ K ∧ 1 ≤ L ∧ K + L + 1 ≤ 17179869184)
  | _ => none
set_option maxHeartbeats 8000000 in
theorem s5Scale_ok : SpecOk Tryz.prog s5Scale := SpecOk.mk' Tryz.func36 (by kernel_rfl) (by kernel_rfl) (spN_at fun l r p h hp => by
  split at h
  · cases h
    refine At.ok (fuel := 60) (hs := []) S0_ok Tryz.func36 (by kernel_rfl) ?_
    simp only [Tryz.f36, go_sem, Nat.reduceAdd, Nat.reduceSub, Nat.reduceMul, Int.reduceAdd, Int.reduceSub, Int.reduceToNat]
    omega
  · cases h)
@[go_sem] def s5Dot : Spec := spN 45 fun l => match l with
  | [([a1, a2, a3], K), ([b1, b2, b3], L)] => some (⟨.inl (cn [a1 * b1 + a2 * b2 + a3 * b3] (3 * (K + L) + 2))⟩, 1 ≤ K ∧ 1 ≤ L ∧ 3 * (K + L) + 4 ≤ 17179869184)
  | _ => none
set_option maxHeartbeats 8000000 in
theorem s5Dot_ok : SpecOk Tryz.prog s5Dot := SpecOk.mk' Tryz.func45 (by kernel_rfl) (by kernel_rfl) (spN_at fun l r p h hp => by
  split at h
  · cases h
    refine At.ok (fuel := 60) (hs := []) S0_ok Tryz.func45 (by kernel_rfl) ?_
    simp only [Tryz.f45, go_sem, Nat.reduceAdd, Nat.reduceSub, Nat.reduceMul, Int.reduceAdd, Int.reduceSub, Int.reduceToNat]
    omega
  · cases h)
@[go_sem] def s5Cross : Spec := spN 30 fun l => match l with
  | [([a1, a2, a3], K), ([b1, b2, b3], L)] => some (⟨.inl (cn [a2 * b3 - a3 * b2, a3 * b1 - a1 * b3, a1 * b2 - a2 * b1] (2 * (K + L) + 1))⟩, 1 ≤ K ∧ 1 ≤ L ∧ 2 * (K + L) + 1 ≤ 17179869184)
  | _ => none
set_option maxHeartbeats 8000000 in
theorem s5Cross_ok : SpecOk Tryz.prog s5Cross := SpecOk.mk' Tryz.func30 (by kernel_rfl) (by kernel_rfl) (spN_at fun l r p h hp => by
  split at h
  · cases h
    refine At.ok (fuel := 60) (hs := []) S0_ok Tryz.func30 (by kernel_rfl) ?_
    simp only [Tryz.f30, go_sem, Nat.reduceAdd, Nat.reduceSub, Nat.reduceMul, Int.reduceAdd, Int.reduceSub, Int.reduceToNat]
    omega
  · cases h)
@[go_sem] def s5Is : Spec := spC 8 fun l => match l with
  | [([a1, a2, a3], K), ([b1, b2, b3], L)] => some (⟨.inl ⟨some (.inl (.bool (decide (a1 = b1 ∧ a2 = b2 ∧ a3 = b3))))⟩⟩, K ≤ 1099511627776 ∧ L ≤ 1099511627776)
  | _ => none
set_option maxHeartbeats 8000000 in
theorem s5Is_ok : SpecOk Tryz.prog s5Is := SpecOk.mk' Tryz.func8 (by kernel_rfl) (by kernel_rfl) (spC_at fun l r p h hp => by
  split at h
  · rename_i a1 a2 a3 K b1 b2 b3 L
    cases h
    by_cases h0 : a1 = b1
    · by_cases h1 : a2 = b2
      · by_cases h2 : a3 = b3
        · rw [show decide (a1 = b1 ∧ a2 = b2 ∧ a3 = b3) = true from by simp [h0, h1, h2]]
          refine At.ok (fuel := 60) (hs := [true, true, true]) S0_ok Tryz.func8 (by kernel_rfl) ?_
          simp only [Tryz.f8, go_sem, Nat.reduceAdd, Nat.reduceSub, Nat.reduceMul, Int.reduceAdd, Int.reduceSub, Int.reduceToNat, decide_eq_true_eq, decide_eq_false_iff_not, h0, h1, h2, not_false_eq_true]
          omega
        · rw [show decide (a1 = b1 ∧ a2 = b2 ∧ a3 = b3) = false from by simp [h0, h1, h2]]
          refine At.ok (fuel := 60) (hs := [true, true, false]) S0_ok Tryz.func8 (by kernel_rfl) ?_
          simp only [Tryz.f8, go_sem, Nat.reduceAdd, Nat.reduceSub, Nat.reduceMul, Int.reduceAdd, Int.reduceSub, Int.reduceToNat, decide_eq_true_eq, decide_eq_false_iff_not, h0, h1, h2, not_false_eq_true]
          omega
      · rw [show decide (a1 = b1 ∧ a2 = b2 ∧ a3 = b3) = false from by simp [h0, h1]]
        refine At.ok (fuel := 60) (hs := [true, false]) S0_ok Tryz.func8 (by kernel_rfl) ?_
        simp only [Tryz.f8, go_sem, Nat.reduceAdd, Nat.reduceSub, Nat.reduceMul, Int.reduceAdd, Int.reduceSub, Int.reduceToNat, decide_eq_true_eq, decide_eq_false_iff_not, h0, h1, not_false_eq_true]
        omega
    · rw [show decide (a1 = b1 ∧ a2 = b2 ∧ a3 = b3) = false from by simp [h0]]
      refine At.ok (fuel := 60) (hs := [false]) S0_ok Tryz.func8 (by kernel_rfl) ?_
      simp only [Tryz.f8, go_sem, Nat.reduceAdd, Nat.reduceSub, Nat.reduceMul, Int.reduceAdd, Int.reduceSub, Int.reduceToNat, decide_eq_true_eq, decide_eq_false_iff_not, h0, not_false_eq_true]
      omega
  · cases h)
@[go_sem] def S1 : List Spec := sLess :: sVOf :: sVSub :: sVScale :: sVDot :: s5Of :: s5Zero :: s5Add :: s5Sub :: s5Scale :: s5Dot :: s5Cross :: s5Is :: S0
theorem S1_ok : AllOk Tryz.prog S1 := ⟨sLess_ok, sVOf_ok, sVSub_ok, sVScale_ok, sVDot_ok, s5Of_ok, s5Zero_ok, s5Add_ok, s5Sub_ok, s5Scale_ok, s5Dot_ok, s5Cross_ok, s5Is_ok, S0_ok⟩
@[go_sem] def sVCross : Spec := spN 28 fun l => match l with
  | [([a1, a2, a3], K), ([b1, b2, b3], L)] => some (⟨.inl (cn [a2 * b3 - a3 * b2, a3 * b1 - a1 * b3, a1 * b2 - a2 * b1] (2 * (K + L) + 1))⟩, 1 ≤ K ∧ 1 ≤ L ∧ 4 * max K L + 3 ≤ 1073741824)
  | _ => none
set_option maxHeartbeats 8000000 in
theorem sVCross_ok : SpecOk Tryz.prog sVCross := SpecOk.mk' Tryz.func28 (by kernel_rfl) (by kernel_rfl) (spN_at fun l r p h hp => by
  split at h
  · rename_i a1 a2 a3 K b1 b2 b3 L
    cases h
    refine At.okT (fuel := 60) (hs := []) S1_ok Tryz.func28 (by kernel_rfl) ?_
    simp only [Tryz.f28, go_sem, Nat.reduceAdd, Nat.reduceSub, Nat.reduceMul, Int.reduceAdd, Int.reduceSub, Int.reduceToNat]
    rintro ⟨⟨d_a1, d_a2, d_a3⟩, ⟨d_b1, d_b2, d_b3⟩⟩
    replace d_a1 := d_a1 (by omega)
    replace d_a2 := d_a2 (by omega)
    replace d_a3 := d_a3 (by omega)
    replace d_b1 := d_b1 (by omega)
    replace d_b2 := d_b2 (by omega)
    replace d_b3 := d_b3 (by omega)
    and_intros
    all_goals first | with_reducible rfl | omega | (show Bd _ _; refine Bd.mono (by repeat' (with_reducible first | apply Bd.add | apply Bd.sub | apply Bd.mul | apply Bd.div | apply Bd.neg | apply Bd.ite | exact Bd.zero | exact Bd.one | exact Bd.two | assumption)) ?_; omega) | (first | with_reducible rfl | grind)
  · cases h)
end Go.Proofs.YtmoicmjljflcgaaGreat.Sym

/- Lengths and directions, by runs. -/
namespace Go.Proofs.YtmoicmjljflcgaaGreat.Sym
open Go Go.RowKit M Kahn
set_option maxRecDepth 1000000
set_option linter.unusedSimpArgs false
set_option linter.unusedVariables false

@[go_sem] def S2 : List Spec := sVCross :: sVSum :: S1
theorem S2_ok : AllOk Tryz.prog S2 := ⟨sVCross_ok, sVSum_ok, S1_ok⟩
@[go_sem] def sVUnit : Spec := spN 19 fun l => match l with
  | [([a1, a2, a3], K)] => some (⟨.inr [cn [uv (a1 * a1 + a2 * a2 + a3 * a3) a1, uv (a1 * a1 + a2 * a2 + a3 * a3) a2, uv (a1 * a1 + a2 * a2 + a3 * a3) a3] (20 * K + 20), cn [ul (a1 * a1 + a2 * a2 + a3 * a3)] (20 * K + 20), ⟨some (.inl (.bool (uok (a1 * a1 + a2 * a2 + a3 * a3))))⟩]⟩, 1 ≤ K ∧ 20 * K + 20 ≤ 1073741824)
  | _ => none
set_option maxHeartbeats 8000000 in
theorem sVUnit_ok : SpecOk Tryz.prog sVUnit := SpecOk.mk' Tryz.func19 (by kernel_rfl) (by kernel_rfl) (spN_at fun l r p h hp => by
  have i0 : ((0 : Int) : Rat) / ((1 : Int) : Rat) = 0 := by decide +kernel
  have i1 : ((1 : Int) : Rat) / ((1 : Int) : Rat) = 1 := by decide +kernel
  split at h
  · rename_i a1 a2 a3 K
    cases h
    by_cases hq : qsq (a1 * a1 + a2 * a2 + a3 * a3) = true
    · by_cases hz : qsqrt (a1 * a1 + a2 * a2 + a3 * a3) = 0
      · have hu : uok (a1 * a1 + a2 * a2 + a3 * a3) = false := by unfold uok; rw [hz]; simp
        have v0 : ∀ x, uv (a1 * a1 + a2 * a2 + a3 * a3) x = 0 := fun x => by unfold uv; rw [hu]; rfl
        have v1 : ul (a1 * a1 + a2 * a2 + a3 * a3) = 0 := by unfold ul; rw [hu]; rfl
        rw [hu, v0, v0, v0, v1]
        refine At.ok (fuel := 60) (hs := [true, false]) S2_ok Tryz.func19 (by kernel_rfl) ?_
        simp only [Tryz.f19, go_sem, Nat.reduceAdd, Nat.reduceSub, Nat.reduceMul, Int.reduceAdd, Int.reduceSub, Int.reduceToNat, hq, hz, i0, i1, decide_eq_true_eq, decide_eq_false_iff_not, ne_eq, not_true_eq_false, not_false_eq_true, Bool.true_eq_false, beq_iff_eq, bne_eq_false_iff_eq, qsgn_zero]
        omega
      · have hu : uok (a1 * a1 + a2 * a2 + a3 * a3) = true := by unfold uok; rw [hq]; simp [hz]
        have v0 : ∀ x, uv (a1 * a1 + a2 * a2 + a3 * a3) x = 1 / qsqrt (a1 * a1 + a2 * a2 + a3 * a3) * x := fun x => by unfold uv; rw [hu]; rfl
        have v1 : ul (a1 * a1 + a2 * a2 + a3 * a3) = qsqrt (a1 * a1 + a2 * a2 + a3 * a3) := by unfold ul; rw [hu]; rfl
        rw [hu, v0, v0, v0, v1]
        refine At.ok (fuel := 60) (hs := [true, true]) S2_ok Tryz.func19 (by kernel_rfl) ?_
        simp only [Tryz.f19, go_sem, Nat.reduceAdd, Nat.reduceSub, Nat.reduceMul, Int.reduceAdd, Int.reduceSub, Int.reduceToNat, hq, hz, i0, i1, decide_eq_true_eq, decide_eq_false_iff_not, ne_eq, not_true_eq_false, not_false_eq_true, beq_eq_false_iff_ne, qsgn_zero]
        omega
    · rw [Bool.not_eq_true] at hq
      have hz : qsqrt (a1 * a1 + a2 * a2 + a3 * a3) = 0 := by unfold qsqrt; rw [hq]; rfl
      have hu : uok (a1 * a1 + a2 * a2 + a3 * a3) = false := by unfold uok; rw [hz]; simp
      have v0 : ∀ x, uv (a1 * a1 + a2 * a2 + a3 * a3) x = 0 := fun x => by unfold uv; rw [hu]; rfl
      have v1 : ul (a1 * a1 + a2 * a2 + a3 * a3) = 0 := by unfold ul; rw [hu]; rfl
      rw [hu, v0, v0, v0, v1]
      refine At.ok (fuel := 60) (hs := [false, false]) S2_ok Tryz.func19 (by kernel_rfl) ?_
      simp only [Tryz.f19, go_sem, Nat.reduceAdd, Nat.reduceSub, Nat.reduceMul, Int.reduceAdd, Int.reduceSub, Int.reduceToNat, hq, hz, i0, i1, decide_eq_true_eq, decide_eq_false_iff_not, ne_eq, not_true_eq_false, not_false_eq_true]
      omega
  · cases h)
@[go_sem] def s5Unit : Spec := spN 22 fun l => match l with
  | [([a1, a2, a3], K)] => some (⟨.inr [cn [uv (a1 * a1 + a2 * a2 + a3 * a3) a1, uv (a1 * a1 + a2 * a2 + a3 * a3) a2, uv (a1 * a1 + a2 * a2 + a3 * a3) a3] (20 * K + 20), cn [ul (a1 * a1 + a2 * a2 + a3 * a3)] (20 * K + 20), ⟨some (.inl (.bool (uok (a1 * a1 + a2 * a2 + a3 * a3))))⟩]⟩, 1 ≤ K ∧ 20 * K + 20 ≤ 17179869184)
  | _ => none
set_option maxHeartbeats 8000000 in
theorem s5Unit_ok : SpecOk Tryz.prog s5Unit := SpecOk.mk' Tryz.func22 (by kernel_rfl) (by kernel_rfl) (spN_at fun l r p h hp => by
  have i0 : ((0 : Int) : Rat) / ((1 : Int) : Rat) = 0 := by decide +kernel
  have i1 : ((1 : Int) : Rat) / ((1 : Int) : Rat) = 1 := by decide +kernel
  split at h
  · rename_i a1 a2 a3 K
    cases h
    by_cases hq : qsq (a1 * a1 + a2 * a2 + a3 * a3) = true
    · by_cases hz : qsqrt (a1 * a1 + a2 * a2 + a3 * a3) = 0
      · have hu : uok (a1 * a1 + a2 * a2 + a3 * a3) = false := by unfold uok; rw [hz]; simp
        have v0 : ∀ x, uv (a1 * a1 + a2 * a2 + a3 * a3) x = 0 := fun x => by unfold uv; rw [hu]; rfl
        have v1 : ul (a1 * a1 + a2 * a2 + a3 * a3) = 0 := by unfold ul; rw [hu]; rfl
        rw [hu, v0, v0, v0, v1]
        refine At.ok (fuel := 60) (hs := [true, true]) S2_ok Tryz.func22 (by kernel_rfl) ?_
        simp only [Tryz.f22, go_sem, Nat.reduceAdd, Nat.reduceSub, Nat.reduceMul, Int.reduceAdd, Int.reduceSub, Int.reduceToNat, hq, hz, i0, i1, decide_eq_true_eq, decide_eq_false_iff_not, ne_eq, not_true_eq_false, not_false_eq_true, Bool.true_eq_false, beq_iff_eq, bne_eq_false_iff_eq, qsgn_zero]
        omega
      · have hu : uok (a1 * a1 + a2 * a2 + a3 * a3) = true := by unfold uok; rw [hq]; simp [hz]
        have v0 : ∀ x, uv (a1 * a1 + a2 * a2 + a3 * a3) x = 1 / qsqrt (a1 * a1 + a2 * a2 + a3 * a3) * x := fun x => by unfold uv; rw [hu]; rfl
        have v1 : ul (a1 * a1 + a2 * a2 + a3 * a3) = qsqrt (a1 * a1 + a2 * a2 + a3 * a3) := by unfold ul; rw [hu]; rfl
        rw [hu, v0, v0, v0, v1]
        refine At.ok (fuel := 60) (hs := [true, false]) S2_ok Tryz.func22 (by kernel_rfl) ?_
        simp only [Tryz.f22, go_sem, Nat.reduceAdd, Nat.reduceSub, Nat.reduceMul, Int.reduceAdd, Int.reduceSub, Int.reduceToNat, hq, hz, i0, i1, decide_eq_true_eq, decide_eq_false_iff_not, ne_eq, not_true_eq_false, not_false_eq_true, beq_eq_false_iff_ne, qsgn_zero]
        omega
    · rw [Bool.not_eq_true] at hq
      have hz : qsqrt (a1 * a1 + a2 * a2 + a3 * a3) = 0 := by unfold qsqrt; rw [hq]; rfl
      have hu : uok (a1 * a1 + a2 * a2 + a3 * a3) = false := by unfold uok; rw [hz]; simp
      have v0 : ∀ x, uv (a1 * a1 + a2 * a2 + a3 * a3) x = 0 := fun x => by unfold uv; rw [hu]; rfl
      have v1 : ul (a1 * a1 + a2 * a2 + a3 * a3) = 0 := by unfold ul; rw [hu]; rfl
      rw [hu, v0, v0, v0, v1]
      refine At.ok (fuel := 60) (hs := [false]) S2_ok Tryz.func22 (by kernel_rfl) ?_
      simp only [Tryz.f22, go_sem, Nat.reduceAdd, Nat.reduceSub, Nat.reduceMul, Int.reduceAdd, Int.reduceSub, Int.reduceToNat, hq, hz, i0, i1, decide_eq_true_eq, decide_eq_false_iff_not, ne_eq, not_true_eq_false, not_false_eq_true]
      omega
  · cases h)
@[go_sem] def S3 : List Spec := sVUnit :: s5Unit :: S2
theorem S3_ok : AllOk Tryz.prog S3 := ⟨sVUnit_ok, s5Unit_ok, S2_ok⟩
end Go.Proofs.YtmoicmjljflcgaaGreat.Sym
