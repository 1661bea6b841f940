/- Package tri, by runs. -/
import Derived.Test.YtmoicmjljflcgaaGreatJD
namespace Go.Proofs.YtmoicmjljflcgaaGreat.Sym
open Go Go.RowKit M Kahn
set_option maxRecDepth 1000000
set_option linter.unusedSimpArgs false
set_option linter.unusedVariables false

theorem qsgn_le {q : Rat} : qsgn q ≤ 0 ↔ q ≤ 0 := by rcases qsgn_cases q with ⟨h, k⟩ | ⟨h, k⟩ | ⟨h, k⟩ <;> grind
theorem qsgn_lt {q : Rat} : qsgn q < 0 ↔ q < 0 := by rcases qsgn_cases q with ⟨h, k⟩ | ⟨h, k⟩ | ⟨h, k⟩ <;> grind
theorem qsgn_gt {q : Rat} : qsgn q > 0 ↔ q > 0 := by rcases qsgn_cases q with ⟨h, k⟩ | ⟨h, k⟩ | ⟨h, k⟩ <;> grind
theorem qsgn_ge {q : Rat} : qsgn q ≥ 0 ↔ q ≥ 0 := by rcases qsgn_cases q with ⟨h, k⟩ | ⟨h, k⟩ | ⟨h, k⟩ <;> grind
theorem div_z (q : Rat) : q / 0 = 0 := by rw [Rat.div_def]; grind
/-- Whether what is so far along the ray, and there in the triangle, is met. -/
def htOk (s u v : Rat) : Bool := decide (0 < s ∧ 0 ≤ u ∧ 0 ≤ v ∧ u + v ≤ 1)
/-- A number that is told of it. -/
def ht (s u v x : Rat) : Rat := if htOk s u v then x else 0
section
variable {s u v : Rat}
theorem ht_yes (h : htOk s u v = true) (x : Rat) : ht s u v x = x := by unfold ht; rw [h]; rfl
theorem ht_no (h : htOk s u v = false) (x : Rat) : ht s u v x = 0 := by unfold ht; rw [h]; rfl
theorem no_s (h : s ≤ 0) : htOk s u v = false := by unfold htOk; exact decide_eq_false (by grind)
theorem no_u (h : u < 0) : htOk s u v = false := by unfold htOk; exact decide_eq_false (by grind)
theorem no_v (h : v < 0) : htOk s u v = false := by unfold htOk; exact decide_eq_false (by grind)
theorem no_w (h : u + v - 1 > 0) : htOk s u v = false := by unfold htOk; exact decide_eq_false (by grind)
theorem yes_all (h1 : ¬ s ≤ 0) (h2 : ¬ u < 0) (h3 : ¬ v < 0) (h4 : ¬ u + v - 1 > 0) : htOk s u v = true := by unfold htOk; exact decide_eq_true (by grind)
end
theorem sq3_zero {x y z : Rat} (h : x * x + y * y + z * z = 0) : x = 0 ∧ y = 0 ∧ z = 0 := by
  have nn : ∀ x : Rat, 0 ≤ x * x := fun x => by
    rcases Rat.le_total (a := 0) (b := x) with h | h
    · exact Rat.mul_nonneg h h
    · have := Rat.mul_nonneg (a := -x) (b := -x) (by grind) (by grind)
      grind
  have h1 := nn x
  have h2 := nn y
  have h3 := nn z
  have k1 : x * x = 0 := by grind
  have k2 : y * y = 0 := by grind
  have k3 : z * z = 0 := by grind
  rw [Rat.mul_eq_zero, or_self] at k1 k2 k3
  exact ⟨k1, k2, k3⟩
theorem cramer (n1 n2 n3 x1 x2 x3 d1 d2 d3 y1 y2 y3 : Rat) (h : n1 * y1 + n2 * y2 + n3 * y3 = 0) : ((n1 * x1 + n2 * x2 + n3 * x3) * (d2 * y3 - d3 * y2) - (n1 * d1 + n2 * d2 + n3 * d3) * (x2 * y3 - x3 * y2)) * n1 + ((n1 * x1 + n2 * x2 + n3 * x3) * (d3 * y1 - d1 * y3) - (n1 * d1 + n2 * d2 + n3 * d3) * (x3 * y1 - x1 * y3)) * n2 + ((n1 * x1 + n2 * x2 + n3 * x3) * (d1 * y2 - d2 * y1) - (n1 * d1 + n2 * d2 + n3 * d3) * (x1 * y2 - x2 * y1)) * n3 = (n1 * n1 + n2 * n2 + n3 * n3) * ((x2 * d3 - x3 * d2) * y1 + (x3 * d1 - x1 * d3) * y2 + (x1 * d2 - x2 * d1) * y3) := by
  have : ((n1 * x1 + n2 * x2 + n3 * x3) * (d2 * y3 - d3 * y2) - (n1 * d1 + n2 * d2 + n3 * d3) * (x2 * y3 - x3 * y2)) * n1 + ((n1 * x1 + n2 * x2 + n3 * x3) * (d3 * y1 - d1 * y3) - (n1 * d1 + n2 * d2 + n3 * d3) * (x3 * y1 - x1 * y3)) * n2 + ((n1 * x1 + n2 * x2 + n3 * x3) * (d1 * y2 - d2 * y1) - (n1 * d1 + n2 * d2 + n3 * d3) * (x1 * y2 - x2 * y1)) * n3 = (n1 * n1 + n2 * n2 + n3 * n3) * ((x2 * d3 - x3 * d2) * y1 + (x3 * d1 - x1 * d3) * y2 + (x1 * d2 - x2 * d1) * y3) - (n1 * y1 + n2 * y2 + n3 * y3) * ((x2 * d3 - x3 * d2) * n1 + (x3 * d1 - x1 * d3) * n2 + (x1 * d2 - x2 * d1) * n3) := by grind
  rw [this, h]; grind
theorem small_tri (n1 n2 n3 x1 x2 x3 d1 d2 d3 y1 y2 y3 s p1 p2 p3 : Rat) (h : n1 * y1 + n2 * y2 + n3 * y3 = 0) (hD : ¬ n1 * d1 + n2 * d2 + n3 * d3 = 0) (hs : s * (n1 * d1 + n2 * d2 + n3 * d3) = n1 * x1 + n2 * x2 + n3 * x3) (h1 : p1 = s * d1 - x1) (h2 : p2 = s * d2 - x2) (h3 : p3 = s * d3 - x3) : ((p2 * y3 - p3 * y2) * n1 + (p3 * y1 - p1 * y3) * n2 + (p1 * y2 - p2 * y1) * n3) / (n1 * n1 + n2 * n2 + n3 * n3) = ((x2 * d3 - x3 * d2) * y1 + (x3 * d1 - x1 * d3) * y2 + (x1 * d2 - x2 * d1) * y3) / (n1 * d1 + n2 * d2 + n3 * d3) := by
  have hn : ¬ n1 * n1 + n2 * n2 + n3 * n3 = 0 := fun h => hD (by
    obtain ⟨r1, r2, r3⟩ := sq3_zero h
    rw [r1, r2, r3]; grind)
  have hc := cramer n1 n2 n3 x1 x2 x3 d1 d2 d3 y1 y2 y3 h
  have hl : ((p2 * y3 - p3 * y2) * n1 + (p3 * y1 - p1 * y3) * n2 + (p1 * y2 - p2 * y1) * n3) * (n1 * d1 + n2 * d2 + n3 * d3) = ((n1 * x1 + n2 * x2 + n3 * x3) * (d2 * y3 - d3 * y2) - (n1 * d1 + n2 * d2 + n3 * d3) * (x2 * y3 - x3 * y2)) * n1 + ((n1 * x1 + n2 * x2 + n3 * x3) * (d3 * y1 - d1 * y3) - (n1 * d1 + n2 * d2 + n3 * d3) * (x3 * y1 - x1 * y3)) * n2 + ((n1 * x1 + n2 * x2 + n3 * x3) * (d1 * y2 - d2 * y1) - (n1 * d1 + n2 * d2 + n3 * d3) * (x1 * y2 - x2 * y1)) * n3 := by
    rw [← hs, h1, h2, h3]; grind
  rw [hc] at hl
  generalize (p2 * y3 - p3 * y2) * n1 + (p3 * y1 - p1 * y3) * n2 + (p1 * y2 - p2 * y1) * n3 = X at *
  generalize (x2 * d3 - x3 * d2) * y1 + (x3 * d1 - x1 * d3) * y2 + (x1 * d2 - x2 * d1) * y3 = Y at *
  generalize n1 * n1 + n2 * n2 + n3 * n3 = N at *
  generalize n1 * d1 + n2 * d2 + n3 * d3 = D at *
  clear hs hc h1 h2 h3 h
  grind
theorem neg_zero' {q : Rat} (h : -q = 0) : q = 0 := by grind
@[go_sem] def sTSides : Spec := spN 29 fun l => match l with
  | [([a1, a2, a3, b1, b2, b3, c1, c2, c3], K)] => some (⟨.inr [cn [b1 - a1, b2 - a2, b3 - a3] (2 * K + 1), cn [c1 - a1, c2 - a2, c3 - a3] (2 * K + 1)]⟩, 1 ≤ K ∧ 8 * K + 8 ≤ 1073741824)
  | _ => none
set_option maxHeartbeats 16000000 in
theorem sTSides_ok : SpecOk Tryz.prog sTSides := SpecOk.mk' Tryz.func29 (by kernel_rfl) (by kernel_rfl) (spN_at fun l r p h hp => by
  split at h
  · rename_i a1 a2 a3 b1 b2 b3 c1 c2 c3 K
    cases h
    have i0 : ((0 : Int) : Rat) / ((1 : Int) : Rat) = 0 := by decide +kernel
    have i1 : ((1 : Int) : Rat) / ((1 : Int) : Rat) = 1 := by decide +kernel
    have ih : ((1 : Int) : Rat) / ((2 : Int) : Rat) = 1 / 2 := by decide +kernel
    refine At.ok (fuel := 60) (hs := []) S3_ok Tryz.func29 (by kernel_rfl) ?_
    simp (maxSteps := 10000000) only [Tryz.f29, go_sem, i0, i1, ih, Nat.reduceAdd, Nat.reduceSub, Nat.reduceMul, Int.reduceAdd, Int.reduceSub, Int.reduceToNat]
    and_intros
    all_goals first | with_reducible rfl | omega | (grind)
  · cases h)
@[go_sem] def sTMissed : Spec := ⟨41, fun xs => match xs with
  | [] => some (⟨.inr [cn [0, 0, 0] (2), ⟨some (.inl (.bool false))⟩]⟩, True)
  | _ => none⟩
set_option maxHeartbeats 8000000 in
theorem sTMissed_ok : SpecOk Tryz.prog sTMissed := SpecOk.mk' Tryz.func41 (by kernel_rfl) (by kernel_rfl) (fun xs r p h hp => by
  simp only [sTMissed] at h
  split at h
  · cases h
    have i0 : ((0 : Int) : Rat) / ((1 : Int) : Rat) = 0 := by decide +kernel
    have i1 : ((1 : Int) : Rat) / ((1 : Int) : Rat) = 1 := by decide +kernel
    have ih : ((1 : Int) : Rat) / ((2 : Int) : Rat) = 1 / 2 := by decide +kernel
    refine At.ok (fuel := 60) (hs := []) S3_ok Tryz.func41 (by kernel_rfl) ?_
    simp (maxSteps := 10000000) only [Tryz.f41, go_sem, i0, i1, ih, Nat.reduceAdd, Nat.reduceSub, Nat.reduceMul, Int.reduceAdd, Int.reduceSub, Int.reduceToNat]
    and_intros
    all_goals first | with_reducible rfl | omega | (grind)
  · cases h)
@[go_sem] def sTAt : Spec := spN 14 fun l => match l with
  | [([o1, o2, o3], K), ([d1, d2, d3], L), ([s], M)] => some (⟨.inl (cn [o1 + s * d1, o2 + s * d2, o3 + s * d3] (3 * max K (L + M) + 3))⟩, 1 ≤ K ∧ 1 ≤ L ∧ 1 ≤ M ∧ 4 * (K + L + M) + 4 ≤ 4294967296)
  | _ => none
set_option maxHeartbeats 16000000 in
theorem sTAt_ok : SpecOk Tryz.prog sTAt := SpecOk.mk' Tryz.func14 (by kernel_rfl) (by kernel_rfl) (spN_at fun l r p h hp => by
  split at h
  · rename_i o1 o2 o3 K d1 d2 d3 L s M
    cases h
    have i0 : ((0 : Int) : Rat) / ((1 : Int) : Rat) = 0 := by decide +kernel
    have i1 : ((1 : Int) : Rat) / ((1 : Int) : Rat) = 1 := by decide +kernel
    have ih : ((1 : Int) : Rat) / ((2 : Int) : Rat) = 1 / 2 := by decide +kernel
    refine At.ok (fuel := 60) (hs := []) S3_ok Tryz.func14 (by kernel_rfl) ?_
    simp (maxSteps := 10000000) only [Tryz.f14, go_sem, i0, i1, ih, Nat.reduceAdd, Nat.reduceSub, Nat.reduceMul, Int.reduceAdd, Int.reduceSub, Int.reduceToNat]
    and_intros
    all_goals first | with_reducible rfl | omega | (grind)
  · cases h)
@[go_sem] def S13 : List Spec := sTSides :: sTMissed :: sTAt :: S3
theorem S13_ok : AllOk Tryz.prog S13 := ⟨sTSides_ok, sTMissed_ok, sTAt_ok, S3_ok⟩
@[go_sem] def sTNormal : Spec := spN 9 fun l => match l with
  | [([a1, a2, a3, b1, b2, b3, c1, c2, c3], K)] => some (⟨.inl (cn [(b2 - a2) * (c3 - a3) - (b3 - a3) * (c2 - a2), (b3 - a3) * (c1 - a1) - (b1 - a1) * (c3 - a3), (b1 - a1) * (c2 - a2) - (b2 - a2) * (c1 - a1)] (8 * K + 5))⟩, 1 ≤ K ∧ 16 * K + 16 ≤ 1073741824)
  | _ => none
set_option maxHeartbeats 16000000 in
theorem sTNormal_ok : SpecOk Tryz.prog sTNormal := SpecOk.mk' Tryz.func9 (by kernel_rfl) (by kernel_rfl) (spN_at fun l r p h hp => by
  split at h
  · rename_i a1 a2 a3 b1 b2 b3 c1 c2 c3 K
    cases h
    have i0 : ((0 : Int) : Rat) / ((1 : Int) : Rat) = 0 := by decide +kernel
    have i1 : ((1 : Int) : Rat) / ((1 : Int) : Rat) = 1 := by decide +kernel
    have ih : ((1 : Int) : Rat) / ((2 : Int) : Rat) = 1 / 2 := by decide +kernel
    refine At.ok (fuel := 60) (hs := []) S13_ok Tryz.func9 (by kernel_rfl) ?_
    simp (maxSteps := 10000000) only [Tryz.f9, go_sem, i0, i1, ih, Nat.reduceAdd, Nat.reduceSub, Nat.reduceMul, Int.reduceAdd, Int.reduceSub, Int.reduceToNat]
    and_intros
    all_goals first | with_reducible rfl | omega | (grind)
  · cases h)
@[go_sem] def sTPoint : Spec := spN 12 fun l => match l with
  | [([a1, a2, a3, b1, b2, b3, c1, c2, c3], K), ([u], L), ([v], M)] => some (⟨.inl (cn [a1 + u * (b1 - a1) + v * (c1 - a1), a2 + u * (b2 - a2) + v * (c2 - a2), a3 + u * (b3 - a3) + v * (c3 - a3)] (5 * K + L + M + 4))⟩, 1 ≤ K ∧ 1 ≤ L ∧ 1 ≤ M ∧ 8 * K + 8 ≤ 1073741824 ∧ 8 * (K + L + M) + 16 ≤ 4294967296)
  | _ => none
set_option maxHeartbeats 8000000 in
theorem sTPoint_ok : SpecOk Tryz.prog sTPoint := SpecOk.mk' Tryz.func12 (by kernel_rfl) (by kernel_rfl) (spN_at fun l r p h hp => by
  split at h
  · rename_i a1 a2 a3 b1 b2 b3 c1 c2 c3 K u L v M
    cases h
    refine At.okT (fuel := 60) (hs := []) S13_ok Tryz.func12 (by kernel_rfl) ?_
    simp only [Tryz.f12, go_sem, Nat.reduceAdd, Nat.reduceSub, Nat.reduceMul, Int.reduceAdd, Int.reduceSub, Int.reduceToNat]
    rintro ⟨⟨d_a1, d_a2, d_a3, d_b1, d_b2, d_b3, d_c1, d_c2, d_c3⟩, d_u, d_v⟩
    replace d_a1 := d_a1 (by omega)
    replace d_a2 := d_a2 (by omega)
    replace d_a3 := d_a3 (by omega)
    replace d_b1 := d_b1 (by omega)
    replace d_b2 := d_b2 (by omega)
    replace d_b3 := d_b3 (by omega)
    replace d_c1 := d_c1 (by omega)
    replace d_c2 := d_c2 (by omega)
    replace d_c3 := d_c3 (by omega)
    replace d_u := d_u (by omega)
    replace d_v := d_v (by omega)
    and_intros
    all_goals first | with_reducible rfl | omega | (show Bd _ _; refine Bd.mono (by repeat' (with_reducible first | apply Bd.add | apply Bd.sub | apply Bd.mul | apply Bd.div | apply Bd.neg | apply Bd.ite | exact Bd.zero | exact Bd.one | exact Bd.two | assumption)) ?_; omega) | (first | with_reducible rfl | grind)
  · cases h)
@[go_sem] def S14 : List Spec := sTNormal :: sTPoint :: S13
theorem S14_ok : AllOk Tryz.prog S14 := ⟨sTNormal_ok, sTPoint_ok, S13_ok⟩
@[go_sem] def sTUnit : Spec := spN 5 fun l => match l with
  | [([a1, a2, a3, b1, b2, b3, c1, c2, c3], K)] => some (⟨.inr [cn [uv (((b2 - a2) * (c3 - a3) - (b3 - a3) * (c2 - a2)) * ((b2 - a2) * (c3 - a3) - (b3 - a3) * (c2 - a2)) + ((b3 - a3) * (c1 - a1) - (b1 - a1) * (c3 - a3)) * ((b3 - a3) * (c1 - a1) - (b1 - a1) * (c3 - a3)) + ((b1 - a1) * (c2 - a2) - (b2 - a2) * (c1 - a1)) * ((b1 - a1) * (c2 - a2) - (b2 - a2) * (c1 - a1))) ((b2 - a2) * (c3 - a3) - (b3 - a3) * (c2 - a2)), uv (((b2 - a2) * (c3 - a3) - (b3 - a3) * (c2 - a2)) * ((b2 - a2) * (c3 - a3) - (b3 - a3) * (c2 - a2)) + ((b3 - a3) * (c1 - a1) - (b1 - a1) * (c3 - a3)) * ((b3 - a3) * (c1 - a1) - (b1 - a1) * (c3 - a3)) + ((b1 - a1) * (c2 - a2) - (b2 - a2) * (c1 - a1)) * ((b1 - a1) * (c2 - a2) - (b2 - a2) * (c1 - a1))) ((b3 - a3) * (c1 - a1) - (b1 - a1) * (c3 - a3)), uv (((b2 - a2) * (c3 - a3) - (b3 - a3) * (c2 - a2)) * ((b2 - a2) * (c3 - a3) - (b3 - a3) * (c2 - a2)) + ((b3 - a3) * (c1 - a1) - (b1 - a1) * (c3 - a3)) * ((b3 - a3) * (c1 - a1) - (b1 - a1) * (c3 - a3)) + ((b1 - a1) * (c2 - a2) - (b2 - a2) * (c1 - a1)) * ((b1 - a1) * (c2 - a2) - (b2 - a2) * (c1 - a1))) ((b1 - a1) * (c2 - a2) - (b2 - a2) * (c1 - a1))] (160 * K + 120), cn [1 / 2 * ul (((b2 - a2) * (c3 - a3) - (b3 - a3) * (c2 - a2)) * ((b2 - a2) * (c3 - a3) - (b3 - a3) * (c2 - a2)) + ((b3 - a3) * (c1 - a1) - (b1 - a1) * (c3 - a3)) * ((b3 - a3) * (c1 - a1) - (b1 - a1) * (c3 - a3)) + ((b1 - a1) * (c2 - a2) - (b2 - a2) * (c1 - a1)) * ((b1 - a1) * (c2 - a2) - (b2 - a2) * (c1 - a1)))] (321 * K + 243), ⟨some (.inl (.bool (uok (((b2 - a2) * (c3 - a3) - (b3 - a3) * (c2 - a2)) * ((b2 - a2) * (c3 - a3) - (b3 - a3) * (c2 - a2)) + ((b3 - a3) * (c1 - a1) - (b1 - a1) * (c3 - a3)) * ((b3 - a3) * (c1 - a1) - (b1 - a1) * (c3 - a3)) + ((b1 - a1) * (c2 - a2) - (b2 - a2) * (c1 - a1)) * ((b1 - a1) * (c2 - a2) - (b2 - a2) * (c1 - a1))))))⟩]⟩, 1 ≤ K ∧ 256 * K + 256 ≤ 1073741824)
  | _ => none
set_option maxHeartbeats 16000000 in
theorem sTUnit_ok : SpecOk Tryz.prog sTUnit := SpecOk.mk' Tryz.func5 (by kernel_rfl) (by kernel_rfl) (spN_at fun l r p h hp => by
  split at h
  · rename_i a1 a2 a3 b1 b2 b3 c1 c2 c3 K
    cases h
    have i0 : ((0 : Int) : Rat) / ((1 : Int) : Rat) = 0 := by decide +kernel
    have i1 : ((1 : Int) : Rat) / ((1 : Int) : Rat) = 1 := by decide +kernel
    have ih : ((1 : Int) : Rat) / ((2 : Int) : Rat) = 1 / 2 := by decide +kernel
    cases hu : uok (((b2 - a2) * (c3 - a3) - (b3 - a3) * (c2 - a2)) * ((b2 - a2) * (c3 - a3) - (b3 - a3) * (c2 - a2)) + ((b3 - a3) * (c1 - a1) - (b1 - a1) * (c3 - a3)) * ((b3 - a3) * (c1 - a1) - (b1 - a1) * (c3 - a3)) + ((b1 - a1) * (c2 - a2) - (b2 - a2) * (c1 - a1)) * ((b1 - a1) * (c2 - a2) - (b2 - a2) * (c1 - a1))) with
    | true =>
      refine At.ok (fuel := 60) (hs := [true]) S14_ok Tryz.func5 (by kernel_rfl) ?_
      simp (maxSteps := 10000000) only [Tryz.f5, go_sem, i0, i1, ih, hu, Nat.reduceAdd, Nat.reduceSub, Nat.reduceMul, Int.reduceAdd, Int.reduceSub, Int.reduceToNat]
      and_intros
      all_goals first | with_reducible rfl | omega | (grind)
    | false =>
      refine At.ok (fuel := 60) (hs := [false]) S14_ok Tryz.func5 (by kernel_rfl) ?_
      simp (maxSteps := 10000000) only [Tryz.f5, go_sem, i0, i1, ih, hu, Nat.reduceAdd, Nat.reduceSub, Nat.reduceMul, Int.reduceAdd, Int.reduceSub, Int.reduceToNat]
      and_intros
      all_goals first | with_reducible rfl | omega | (grind)
  · cases h)
@[go_sem] def sTHit : Spec := spN 16 fun l => match l with
  | [([o1, o2, o3], K), ([d1, d2, d3], L), ([a1, a2, a3, b1, b2, b3, c1, c2, c3], M)] => some (⟨.inr [cn [ht ((((b2 - a2) * (c3 - a3) - (b3 - a3) * (c2 - a2)) * (a1 - o1) + ((b3 - a3) * (c1 - a1) - (b1 - a1) * (c3 - a3)) * (a2 - o2) + ((b1 - a1) * (c2 - a2) - (b2 - a2) * (c1 - a1)) * (a3 - o3)) / (((b2 - a2) * (c3 - a3) - (b3 - a3) * (c2 - a2)) * d1 + ((b3 - a3) * (c1 - a1) - (b1 - a1) * (c3 - a3)) * d2 + ((b1 - a1) * (c2 - a2) - (b2 - a2) * (c1 - a1)) * d3)) ((((a2 - o2) * d3 - (a3 - o3) * d2) * (c1 - a1) + ((a3 - o3) * d1 - (a1 - o1) * d3) * (c2 - a2) + ((a1 - o1) * d2 - (a2 - o2) * d1) * (c3 - a3)) / (((b2 - a2) * (c3 - a3) - (b3 - a3) * (c2 - a2)) * d1 + ((b3 - a3) * (c1 - a1) - (b1 - a1) * (c3 - a3)) * d2 + ((b1 - a1) * (c2 - a2) - (b2 - a2) * (c1 - a1)) * d3)) ((((a2 - o2) * d3 - (a3 - o3) * d2) * (b1 - a1) + ((a3 - o3) * d1 - (a1 - o1) * d3) * (b2 - a2) + ((a1 - o1) * d2 - (a2 - o2) * d1) * (b3 - a3)) / (-(((b2 - a2) * (c3 - a3) - (b3 - a3) * (c2 - a2)) * d1 + ((b3 - a3) * (c1 - a1) - (b1 - a1) * (c3 - a3)) * d2 + ((b1 - a1) * (c2 - a2) - (b2 - a2) * (c1 - a1)) * d3))) ((((b2 - a2) * (c3 - a3) - (b3 - a3) * (c2 - a2)) * (a1 - o1) + ((b3 - a3) * (c1 - a1) - (b1 - a1) * (c3 - a3)) * (a2 - o2) + ((b1 - a1) * (c2 - a2) - (b2 - a2) * (c1 - a1)) * (a3 - o3)) / (((b2 - a2) * (c3 - a3) - (b3 - a3) * (c2 - a2)) * d1 + ((b3 - a3) * (c1 - a1) - (b1 - a1) * (c3 - a3)) * d2 + ((b1 - a1) * (c2 - a2) - (b2 - a2) * (c1 - a1)) * d3)), ht ((((b2 - a2) * (c3 - a3) - (b3 - a3) * (c2 - a2)) * (a1 - o1) + ((b3 - a3) * (c1 - a1) - (b1 - a1) * (c3 - a3)) * (a2 - o2) + ((b1 - a1) * (c2 - a2) - (b2 - a2) * (c1 - a1)) * (a3 - o3)) / (((b2 - a2) * (c3 - a3) - (b3 - a3) * (c2 - a2)) * d1 + ((b3 - a3) * (c1 - a1) - (b1 - a1) * (c3 - a3)) * d2 + ((b1 - a1) * (c2 - a2) - (b2 - a2) * (c1 - a1)) * d3)) ((((a2 - o2) * d3 - (a3 - o3) * d2) * (c1 - a1) + ((a3 - o3) * d1 - (a1 - o1) * d3) * (c2 - a2) + ((a1 - o1) * d2 - (a2 - o2) * d1) * (c3 - a3)) / (((b2 - a2) * (c3 - a3) - (b3 - a3) * (c2 - a2)) * d1 + ((b3 - a3) * (c1 - a1) - (b1 - a1) * (c3 - a3)) * d2 + ((b1 - a1) * (c2 - a2) - (b2 - a2) * (c1 - a1)) * d3)) ((((a2 - o2) * d3 - (a3 - o3) * d2) * (b1 - a1) + ((a3 - o3) * d1 - (a1 - o1) * d3) * (b2 - a2) + ((a1 - o1) * d2 - (a2 - o2) * d1) * (b3 - a3)) / (-(((b2 - a2) * (c3 - a3) - (b3 - a3) * (c2 - a2)) * d1 + ((b3 - a3) * (c1 - a1) - (b1 - a1) * (c3 - a3)) * d2 + ((b1 - a1) * (c2 - a2) - (b2 - a2) * (c1 - a1)) * d3))) ((((a2 - o2) * d3 - (a3 - o3) * d2) * (c1 - a1) + ((a3 - o3) * d1 - (a1 - o1) * d3) * (c2 - a2) + ((a1 - o1) * d2 - (a2 - o2) * d1) * (c3 - a3)) / (((b2 - a2) * (c3 - a3) - (b3 - a3) * (c2 - a2)) * d1 + ((b3 - a3) * (c1 - a1) - (b1 - a1) * (c3 - a3)) * d2 + ((b1 - a1) * (c2 - a2) - (b2 - a2) * (c1 - a1)) * d3)), ht ((((b2 - a2) * (c3 - a3) - (b3 - a3) * (c2 - a2)) * (a1 - o1) + ((b3 - a3) * (c1 - a1) - (b1 - a1) * (c3 - a3)) * (a2 - o2) + ((b1 - a1) * (c2 - a2) - (b2 - a2) * (c1 - a1)) * (a3 - o3)) / (((b2 - a2) * (c3 - a3) - (b3 - a3) * (c2 - a2)) * d1 + ((b3 - a3) * (c1 - a1) - (b1 - a1) * (c3 - a3)) * d2 + ((b1 - a1) * (c2 - a2) - (b2 - a2) * (c1 - a1)) * d3)) ((((a2 - o2) * d3 - (a3 - o3) * d2) * (c1 - a1) + ((a3 - o3) * d1 - (a1 - o1) * d3) * (c2 - a2) + ((a1 - o1) * d2 - (a2 - o2) * d1) * (c3 - a3)) / (((b2 - a2) * (c3 - a3) - (b3 - a3) * (c2 - a2)) * d1 + ((b3 - a3) * (c1 - a1) - (b1 - a1) * (c3 - a3)) * d2 + ((b1 - a1) * (c2 - a2) - (b2 - a2) * (c1 - a1)) * d3)) ((((a2 - o2) * d3 - (a3 - o3) * d2) * (b1 - a1) + ((a3 - o3) * d1 - (a1 - o1) * d3) * (b2 - a2) + ((a1 - o1) * d2 - (a2 - o2) * d1) * (b3 - a3)) / (-(((b2 - a2) * (c3 - a3) - (b3 - a3) * (c2 - a2)) * d1 + ((b3 - a3) * (c1 - a1) - (b1 - a1) * (c3 - a3)) * d2 + ((b1 - a1) * (c2 - a2) - (b2 - a2) * (c1 - a1)) * d3))) ((((a2 - o2) * d3 - (a3 - o3) * d2) * (b1 - a1) + ((a3 - o3) * d1 - (a1 - o1) * d3) * (b2 - a2) + ((a1 - o1) * d2 - (a2 - o2) * d1) * (b3 - a3)) / (-(((b2 - a2) * (c3 - a3) - (b3 - a3) * (c2 - a2)) * d1 + ((b3 - a3) * (c1 - a1) - (b1 - a1) * (c3 - a3)) * d2 + ((b1 - a1) * (c2 - a2) - (b2 - a2) * (c1 - a1)) * d3)))] (51 * M + 16 * K + 16 * L + 64), ⟨some (.inl (.bool (htOk ((((b2 - a2) * (c3 - a3) - (b3 - a3) * (c2 - a2)) * (a1 - o1) + ((b3 - a3) * (c1 - a1) - (b1 - a1) * (c3 - a3)) * (a2 - o2) + ((b1 - a1) * (c2 - a2) - (b2 - a2) * (c1 - a1)) * (a3 - o3)) / (((b2 - a2) * (c3 - a3) - (b3 - a3) * (c2 - a2)) * d1 + ((b3 - a3) * (c1 - a1) - (b1 - a1) * (c3 - a3)) * d2 + ((b1 - a1) * (c2 - a2) - (b2 - a2) * (c1 - a1)) * d3)) ((((a2 - o2) * d3 - (a3 - o3) * d2) * (c1 - a1) + ((a3 - o3) * d1 - (a1 - o1) * d3) * (c2 - a2) + ((a1 - o1) * d2 - (a2 - o2) * d1) * (c3 - a3)) / (((b2 - a2) * (c3 - a3) - (b3 - a3) * (c2 - a2)) * d1 + ((b3 - a3) * (c1 - a1) - (b1 - a1) * (c3 - a3)) * d2 + ((b1 - a1) * (c2 - a2) - (b2 - a2) * (c1 - a1)) * d3)) ((((a2 - o2) * d3 - (a3 - o3) * d2) * (b1 - a1) + ((a3 - o3) * d1 - (a1 - o1) * d3) * (b2 - a2) + ((a1 - o1) * d2 - (a2 - o2) * d1) * (b3 - a3)) / (-(((b2 - a2) * (c3 - a3) - (b3 - a3) * (c2 - a2)) * d1 + ((b3 - a3) * (c1 - a1) - (b1 - a1) * (c3 - a3)) * d2 + ((b1 - a1) * (c2 - a2) - (b2 - a2) * (c1 - a1)) * d3))))))⟩]⟩, 1 ≤ K ∧ 1 ≤ L ∧ 1 ≤ M ∧ 64 * M + 64 ≤ 1073741824 ∧ 51 * M + 16 * K + 16 * L + 64 ≤ 1073741824)
  | _ => none
set_option maxHeartbeats 16000000 in
theorem sTHit_ok : SpecOk Tryz.prog sTHit := SpecOk.mk' Tryz.func16 (by kernel_rfl) (by kernel_rfl) (spN_at fun l r p h hp => by
  split at h
  · rename_i o1 o2 o3 K d1 d2 d3 L a1 a2 a3 b1 b2 b3 c1 c2 c3 M
    cases h
    have i0 : ((0 : Int) : Rat) / ((1 : Int) : Rat) = 0 := by decide +kernel
    have i1 : ((1 : Int) : Rat) / ((1 : Int) : Rat) = 1 := by decide +kernel
    have ih : ((1 : Int) : Rat) / ((2 : Int) : Rat) = 1 / 2 := by decide +kernel
    by_cases hD : ((b2 - a2) * (c3 - a3) - (b3 - a3) * (c2 - a2)) * d1 + ((b3 - a3) * (c1 - a1) - (b1 - a1) * (c3 - a3)) * d2 + ((b1 - a1) * (c2 - a2) - (b2 - a2) * (c1 - a1)) * d3 = 0
    · have hz : (((b2 - a2) * (c3 - a3) - (b3 - a3) * (c2 - a2)) * (a1 - o1) + ((b3 - a3) * (c1 - a1) - (b1 - a1) * (c3 - a3)) * (a2 - o2) + ((b1 - a1) * (c2 - a2) - (b2 - a2) * (c1 - a1)) * (a3 - o3)) / (((b2 - a2) * (c3 - a3) - (b3 - a3) * (c2 - a2)) * d1 + ((b3 - a3) * (c1 - a1) - (b1 - a1) * (c3 - a3)) * d2 + ((b1 - a1) * (c2 - a2) - (b2 - a2) * (c1 - a1)) * d3) = 0 := by rw [hD]; exact div_z _
      have hk : htOk ((((b2 - a2) * (c3 - a3) - (b3 - a3) * (c2 - a2)) * (a1 - o1) + ((b3 - a3) * (c1 - a1) - (b1 - a1) * (c3 - a3)) * (a2 - o2) + ((b1 - a1) * (c2 - a2) - (b2 - a2) * (c1 - a1)) * (a3 - o3)) / (((b2 - a2) * (c3 - a3) - (b3 - a3) * (c2 - a2)) * d1 + ((b3 - a3) * (c1 - a1) - (b1 - a1) * (c3 - a3)) * d2 + ((b1 - a1) * (c2 - a2) - (b2 - a2) * (c1 - a1)) * d3)) ((((a2 - o2) * d3 - (a3 - o3) * d2) * (c1 - a1) + ((a3 - o3) * d1 - (a1 - o1) * d3) * (c2 - a2) + ((a1 - o1) * d2 - (a2 - o2) * d1) * (c3 - a3)) / (((b2 - a2) * (c3 - a3) - (b3 - a3) * (c2 - a2)) * d1 + ((b3 - a3) * (c1 - a1) - (b1 - a1) * (c3 - a3)) * d2 + ((b1 - a1) * (c2 - a2) - (b2 - a2) * (c1 - a1)) * d3)) ((((a2 - o2) * d3 - (a3 - o3) * d2) * (b1 - a1) + ((a3 - o3) * d1 - (a1 - o1) * d3) * (b2 - a2) + ((a1 - o1) * d2 - (a2 - o2) * d1) * (b3 - a3)) / (-(((b2 - a2) * (c3 - a3) - (b3 - a3) * (c2 - a2)) * d1 + ((b3 - a3) * (c1 - a1) - (b1 - a1) * (c3 - a3)) * d2 + ((b1 - a1) * (c2 - a2) - (b2 - a2) * (c1 - a1)) * d3))) = false := no_s (by rw [hz]; exact Rat.le_refl)
      have y1 := ht_no hk
      rw [hk, y1, y1, y1]
      refine At.ok (fuel := 60) (hs := [false, true, false]) S14_ok Tryz.func16 (by kernel_rfl) ?_
      simp (maxSteps := 10000000) only [Tryz.f16, go_sem, i0, i1, ih, decide_eq_true_eq, decide_eq_false_iff_not, ne_eq, not_true_eq_false, not_false_eq_true, Decidable.not_not, beq_iff_eq, beq_eq_false_iff_ne, bne_eq_false_iff_eq, bne_iff_ne, qsgn_zero, qsgn_le, qsgn_lt, qsgn_gt, hD, div_z, Rat.le_refl, Nat.reduceAdd, Nat.reduceSub, Nat.reduceMul, Int.reduceAdd, Int.reduceSub, Int.reduceToNat]
      and_intros
      all_goals first | with_reducible rfl | omega | (grind)
    have hM : ¬ -(((b2 - a2) * (c3 - a3) - (b3 - a3) * (c2 - a2)) * d1 + ((b3 - a3) * (c1 - a1) - (b1 - a1) * (c3 - a3)) * d2 + ((b1 - a1) * (c2 - a2) - (b2 - a2) * (c1 - a1)) * d3) = 0 := fun h => hD (neg_zero' h)
    by_cases h1 : (((b2 - a2) * (c3 - a3) - (b3 - a3) * (c2 - a2)) * (a1 - o1) + ((b3 - a3) * (c1 - a1) - (b1 - a1) * (c3 - a3)) * (a2 - o2) + ((b1 - a1) * (c2 - a2) - (b2 - a2) * (c1 - a1)) * (a3 - o3)) / (((b2 - a2) * (c3 - a3) - (b3 - a3) * (c2 - a2)) * d1 + ((b3 - a3) * (c1 - a1) - (b1 - a1) * (c3 - a3)) * d2 + ((b1 - a1) * (c2 - a2) - (b2 - a2) * (c1 - a1)) * d3) ≤ 0
    · have hk : htOk ((((b2 - a2) * (c3 - a3) - (b3 - a3) * (c2 - a2)) * (a1 - o1) + ((b3 - a3) * (c1 - a1) - (b1 - a1) * (c3 - a3)) * (a2 - o2) + ((b1 - a1) * (c2 - a2) - (b2 - a2) * (c1 - a1)) * (a3 - o3)) / (((b2 - a2) * (c3 - a3) - (b3 - a3) * (c2 - a2)) * d1 + ((b3 - a3) * (c1 - a1) - (b1 - a1) * (c3 - a3)) * d2 + ((b1 - a1) * (c2 - a2) - (b2 - a2) * (c1 - a1)) * d3)) ((((a2 - o2) * d3 - (a3 - o3) * d2) * (c1 - a1) + ((a3 - o3) * d1 - (a1 - o1) * d3) * (c2 - a2) + ((a1 - o1) * d2 - (a2 - o2) * d1) * (c3 - a3)) / (((b2 - a2) * (c3 - a3) - (b3 - a3) * (c2 - a2)) * d1 + ((b3 - a3) * (c1 - a1) - (b1 - a1) * (c3 - a3)) * d2 + ((b1 - a1) * (c2 - a2) - (b2 - a2) * (c1 - a1)) * d3)) ((((a2 - o2) * d3 - (a3 - o3) * d2) * (b1 - a1) + ((a3 - o3) * d1 - (a1 - o1) * d3) * (b2 - a2) + ((a1 - o1) * d2 - (a2 - o2) * d1) * (b3 - a3)) / (-(((b2 - a2) * (c3 - a3) - (b3 - a3) * (c2 - a2)) * d1 + ((b3 - a3) * (c1 - a1) - (b1 - a1) * (c3 - a3)) * d2 + ((b1 - a1) * (c2 - a2) - (b2 - a2) * (c1 - a1)) * d3))) = false := no_s h1
      have y1 := ht_no hk
      rw [hk, y1, y1, y1]
      refine At.ok (fuel := 60) (hs := [true, true, false]) S14_ok Tryz.func16 (by kernel_rfl) ?_
      simp (maxSteps := 10000000) only [Tryz.f16, go_sem, i0, i1, ih, decide_eq_true_eq, decide_eq_false_iff_not, ne_eq, not_true_eq_false, not_false_eq_true, Decidable.not_not, beq_iff_eq, beq_eq_false_iff_ne, bne_eq_false_iff_eq, bne_iff_ne, qsgn_zero, qsgn_le, qsgn_lt, qsgn_gt, h1, hD, hM, Nat.reduceAdd, Nat.reduceSub, Nat.reduceMul, Int.reduceAdd, Int.reduceSub, Int.reduceToNat]
      and_intros
      all_goals first | with_reducible rfl | omega | (grind)
    by_cases h2 : (((a2 - o2) * d3 - (a3 - o3) * d2) * (c1 - a1) + ((a3 - o3) * d1 - (a1 - o1) * d3) * (c2 - a2) + ((a1 - o1) * d2 - (a2 - o2) * d1) * (c3 - a3)) / (((b2 - a2) * (c3 - a3) - (b3 - a3) * (c2 - a2)) * d1 + ((b3 - a3) * (c1 - a1) - (b1 - a1) * (c3 - a3)) * d2 + ((b1 - a1) * (c2 - a2) - (b2 - a2) * (c1 - a1)) * d3) < 0
    · have hk : htOk ((((b2 - a2) * (c3 - a3) - (b3 - a3) * (c2 - a2)) * (a1 - o1) + ((b3 - a3) * (c1 - a1) - (b1 - a1) * (c3 - a3)) * (a2 - o2) + ((b1 - a1) * (c2 - a2) - (b2 - a2) * (c1 - a1)) * (a3 - o3)) / (((b2 - a2) * (c3 - a3) - (b3 - a3) * (c2 - a2)) * d1 + ((b3 - a3) * (c1 - a1) - (b1 - a1) * (c3 - a3)) * d2 + ((b1 - a1) * (c2 - a2) - (b2 - a2) * (c1 - a1)) * d3)) ((((a2 - o2) * d3 - (a3 - o3) * d2) * (c1 - a1) + ((a3 - o3) * d1 - (a1 - o1) * d3) * (c2 - a2) + ((a1 - o1) * d2 - (a2 - o2) * d1) * (c3 - a3)) / (((b2 - a2) * (c3 - a3) - (b3 - a3) * (c2 - a2)) * d1 + ((b3 - a3) * (c1 - a1) - (b1 - a1) * (c3 - a3)) * d2 + ((b1 - a1) * (c2 - a2) - (b2 - a2) * (c1 - a1)) * d3)) ((((a2 - o2) * d3 - (a3 - o3) * d2) * (b1 - a1) + ((a3 - o3) * d1 - (a1 - o1) * d3) * (b2 - a2) + ((a1 - o1) * d2 - (a2 - o2) * d1) * (b3 - a3)) / (-(((b2 - a2) * (c3 - a3) - (b3 - a3) * (c2 - a2)) * d1 + ((b3 - a3) * (c1 - a1) - (b1 - a1) * (c3 - a3)) * d2 + ((b1 - a1) * (c2 - a2) - (b2 - a2) * (c1 - a1)) * d3))) = false := no_u h2
      have y1 := ht_no hk
      rw [hk, y1, y1, y1]
      refine At.ok (fuel := 60) (hs := [true, false, true, true, false]) S14_ok Tryz.func16 (by kernel_rfl) ?_
      simp (maxSteps := 10000000) only [Tryz.f16, go_sem, i0, i1, ih, decide_eq_true_eq, decide_eq_false_iff_not, ne_eq, not_true_eq_false, not_false_eq_true, Decidable.not_not, beq_iff_eq, beq_eq_false_iff_ne, bne_eq_false_iff_eq, bne_iff_ne, qsgn_zero, qsgn_le, qsgn_lt, qsgn_gt, h1, h2, hD, hM, Nat.reduceAdd, Nat.reduceSub, Nat.reduceMul, Int.reduceAdd, Int.reduceSub, Int.reduceToNat]
      and_intros
      all_goals first | with_reducible rfl | omega | (grind)
    by_cases h3 : (((a2 - o2) * d3 - (a3 - o3) * d2) * (b1 - a1) + ((a3 - o3) * d1 - (a1 - o1) * d3) * (b2 - a2) + ((a1 - o1) * d2 - (a2 - o2) * d1) * (b3 - a3)) / (-(((b2 - a2) * (c3 - a3) - (b3 - a3) * (c2 - a2)) * d1 + ((b3 - a3) * (c1 - a1) - (b1 - a1) * (c3 - a3)) * d2 + ((b1 - a1) * (c2 - a2) - (b2 - a2) * (c1 - a1)) * d3)) < 0
    · have hk : htOk ((((b2 - a2) * (c3 - a3) - (b3 - a3) * (c2 - a2)) * (a1 - o1) + ((b3 - a3) * (c1 - a1) - (b1 - a1) * (c3 - a3)) * (a2 - o2) + ((b1 - a1) * (c2 - a2) - (b2 - a2) * (c1 - a1)) * (a3 - o3)) / (((b2 - a2) * (c3 - a3) - (b3 - a3) * (c2 - a2)) * d1 + ((b3 - a3) * (c1 - a1) - (b1 - a1) * (c3 - a3)) * d2 + ((b1 - a1) * (c2 - a2) - (b2 - a2) * (c1 - a1)) * d3)) ((((a2 - o2) * d3 - (a3 - o3) * d2) * (c1 - a1) + ((a3 - o3) * d1 - (a1 - o1) * d3) * (c2 - a2) + ((a1 - o1) * d2 - (a2 - o2) * d1) * (c3 - a3)) / (((b2 - a2) * (c3 - a3) - (b3 - a3) * (c2 - a2)) * d1 + ((b3 - a3) * (c1 - a1) - (b1 - a1) * (c3 - a3)) * d2 + ((b1 - a1) * (c2 - a2) - (b2 - a2) * (c1 - a1)) * d3)) ((((a2 - o2) * d3 - (a3 - o3) * d2) * (b1 - a1) + ((a3 - o3) * d1 - (a1 - o1) * d3) * (b2 - a2) + ((a1 - o1) * d2 - (a2 - o2) * d1) * (b3 - a3)) / (-(((b2 - a2) * (c3 - a3) - (b3 - a3) * (c2 - a2)) * d1 + ((b3 - a3) * (c1 - a1) - (b1 - a1) * (c3 - a3)) * d2 + ((b1 - a1) * (c2 - a2) - (b2 - a2) * (c1 - a1)) * d3))) = false := no_v h3
      have y1 := ht_no hk
      rw [hk, y1, y1, y1]
      refine At.ok (fuel := 60) (hs := [true, false, true, false, true, true, false]) S14_ok Tryz.func16 (by kernel_rfl) ?_
      simp (maxSteps := 10000000) only [Tryz.f16, go_sem, i0, i1, ih, decide_eq_true_eq, decide_eq_false_iff_not, ne_eq, not_true_eq_false, not_false_eq_true, Decidable.not_not, beq_iff_eq, beq_eq_false_iff_ne, bne_eq_false_iff_eq, bne_iff_ne, qsgn_zero, qsgn_le, qsgn_lt, qsgn_gt, h1, h2, h3, hD, hM, Nat.reduceAdd, Nat.reduceSub, Nat.reduceMul, Int.reduceAdd, Int.reduceSub, Int.reduceToNat]
      and_intros
      all_goals first | with_reducible rfl | omega | (grind)
    by_cases h4 : (((a2 - o2) * d3 - (a3 - o3) * d2) * (c1 - a1) + ((a3 - o3) * d1 - (a1 - o1) * d3) * (c2 - a2) + ((a1 - o1) * d2 - (a2 - o2) * d1) * (c3 - a3)) / (((b2 - a2) * (c3 - a3) - (b3 - a3) * (c2 - a2)) * d1 + ((b3 - a3) * (c1 - a1) - (b1 - a1) * (c3 - a3)) * d2 + ((b1 - a1) * (c2 - a2) - (b2 - a2) * (c1 - a1)) * d3) + (((a2 - o2) * d3 - (a3 - o3) * d2) * (b1 - a1) + ((a3 - o3) * d1 - (a1 - o1) * d3) * (b2 - a2) + ((a1 - o1) * d2 - (a2 - o2) * d1) * (b3 - a3)) / (-(((b2 - a2) * (c3 - a3) - (b3 - a3) * (c2 - a2)) * d1 + ((b3 - a3) * (c1 - a1) - (b1 - a1) * (c3 - a3)) * d2 + ((b1 - a1) * (c2 - a2) - (b2 - a2) * (c1 - a1)) * d3)) - 1 > 0
    · have hk : htOk ((((b2 - a2) * (c3 - a3) - (b3 - a3) * (c2 - a2)) * (a1 - o1) + ((b3 - a3) * (c1 - a1) - (b1 - a1) * (c3 - a3)) * (a2 - o2) + ((b1 - a1) * (c2 - a2) - (b2 - a2) * (c1 - a1)) * (a3 - o3)) / (((b2 - a2) * (c3 - a3) - (b3 - a3) * (c2 - a2)) * d1 + ((b3 - a3) * (c1 - a1) - (b1 - a1) * (c3 - a3)) * d2 + ((b1 - a1) * (c2 - a2) - (b2 - a2) * (c1 - a1)) * d3)) ((((a2 - o2) * d3 - (a3 - o3) * d2) * (c1 - a1) + ((a3 - o3) * d1 - (a1 - o1) * d3) * (c2 - a2) + ((a1 - o1) * d2 - (a2 - o2) * d1) * (c3 - a3)) / (((b2 - a2) * (c3 - a3) - (b3 - a3) * (c2 - a2)) * d1 + ((b3 - a3) * (c1 - a1) - (b1 - a1) * (c3 - a3)) * d2 + ((b1 - a1) * (c2 - a2) - (b2 - a2) * (c1 - a1)) * d3)) ((((a2 - o2) * d3 - (a3 - o3) * d2) * (b1 - a1) + ((a3 - o3) * d1 - (a1 - o1) * d3) * (b2 - a2) + ((a1 - o1) * d2 - (a2 - o2) * d1) * (b3 - a3)) / (-(((b2 - a2) * (c3 - a3) - (b3 - a3) * (c2 - a2)) * d1 + ((b3 - a3) * (c1 - a1) - (b1 - a1) * (c3 - a3)) * d2 + ((b1 - a1) * (c2 - a2) - (b2 - a2) * (c1 - a1)) * d3))) = false := no_w h4
      have y1 := ht_no hk
      rw [hk, y1, y1, y1]
      refine At.ok (fuel := 60) (hs := [true, false, true, false, true, false, true, false]) S14_ok Tryz.func16 (by kernel_rfl) ?_
      simp (maxSteps := 10000000) only [Tryz.f16, go_sem, i0, i1, ih, decide_eq_true_eq, decide_eq_false_iff_not, ne_eq, not_true_eq_false, not_false_eq_true, Decidable.not_not, beq_iff_eq, beq_eq_false_iff_ne, bne_eq_false_iff_eq, bne_iff_ne, qsgn_zero, qsgn_le, qsgn_lt, qsgn_gt, h1, h2, h3, h4, hD, hM, Nat.reduceAdd, Nat.reduceSub, Nat.reduceMul, Int.reduceAdd, Int.reduceSub, Int.reduceToNat]
      and_intros
      all_goals first | with_reducible rfl | omega | (grind)
    · have hk : htOk ((((b2 - a2) * (c3 - a3) - (b3 - a3) * (c2 - a2)) * (a1 - o1) + ((b3 - a3) * (c1 - a1) - (b1 - a1) * (c3 - a3)) * (a2 - o2) + ((b1 - a1) * (c2 - a2) - (b2 - a2) * (c1 - a1)) * (a3 - o3)) / (((b2 - a2) * (c3 - a3) - (b3 - a3) * (c2 - a2)) * d1 + ((b3 - a3) * (c1 - a1) - (b1 - a1) * (c3 - a3)) * d2 + ((b1 - a1) * (c2 - a2) - (b2 - a2) * (c1 - a1)) * d3)) ((((a2 - o2) * d3 - (a3 - o3) * d2) * (c1 - a1) + ((a3 - o3) * d1 - (a1 - o1) * d3) * (c2 - a2) + ((a1 - o1) * d2 - (a2 - o2) * d1) * (c3 - a3)) / (((b2 - a2) * (c3 - a3) - (b3 - a3) * (c2 - a2)) * d1 + ((b3 - a3) * (c1 - a1) - (b1 - a1) * (c3 - a3)) * d2 + ((b1 - a1) * (c2 - a2) - (b2 - a2) * (c1 - a1)) * d3)) ((((a2 - o2) * d3 - (a3 - o3) * d2) * (b1 - a1) + ((a3 - o3) * d1 - (a1 - o1) * d3) * (b2 - a2) + ((a1 - o1) * d2 - (a2 - o2) * d1) * (b3 - a3)) / (-(((b2 - a2) * (c3 - a3) - (b3 - a3) * (c2 - a2)) * d1 + ((b3 - a3) * (c1 - a1) - (b1 - a1) * (c3 - a3)) * d2 + ((b1 - a1) * (c2 - a2) - (b2 - a2) * (c1 - a1)) * d3))) = true := yes_all h1 h2 h3 h4
      have y1 := ht_yes hk
      rw [hk, y1, y1, y1]
      refine At.ok (fuel := 60) (hs := [true, false, true, false, true, false, false]) S14_ok Tryz.func16 (by kernel_rfl) ?_
      simp (maxSteps := 10000000) only [Tryz.f16, go_sem, i0, i1, ih, decide_eq_true_eq, decide_eq_false_iff_not, ne_eq, not_true_eq_false, not_false_eq_true, Decidable.not_not, beq_iff_eq, beq_eq_false_iff_ne, bne_eq_false_iff_eq, bne_iff_ne, qsgn_zero, qsgn_le, qsgn_lt, qsgn_gt, h1, h2, h3, h4, hD, hM, Nat.reduceAdd, Nat.reduceSub, Nat.reduceMul, Int.reduceAdd, Int.reduceSub, Int.reduceToNat]
      and_intros
      all_goals first | with_reducible rfl | omega | (grind)
  · cases h)
@[go_sem] def S15 : List Spec := sTUnit :: sTHit :: S14
theorem S15_ok : AllOk Tryz.prog S15 := ⟨sTUnit_ok, sTHit_ok, S14_ok⟩
end Go.Proofs.YtmoicmjljflcgaaGreat.Sym
