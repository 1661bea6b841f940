/- rat: Floor. -/
import Derived.Test.YtbobhhnhlgdkiaaGreatJa
import Derived.Test.YtbobhhnhlgdkiaaGreatJb
namespace Go.Proofs.YtbobhhnhlgdkiaaGreat
open Go.RowKit M Kahn
set_option maxRecDepth 100000

/-- A whole number's canonical Rat. -/
theorem Cq.whole {w : World} {s s' : Bool} {no : Option Addr} {nn nc : Nat} {eo : Option Addr} {en ec : Nat} {q : Rat} {C K : Nat} (hq : rq s C 1 = q) (hs : s' = (s && decide (C ≠ 0))) (h1 : Sl w.heap.size w no nn nc (toL C)) (h2 : Sl w.heap.size w eo en ec [1]) (hn : nn ≤ K) (hK : 1 ≤ K) : Cq w s' no nn nc eo en ec q K := by
  rw [rq_one] at hq
  have e1 : q.num = sg s C := by rw [← hq]; rfl
  have e2 : q.den = 1 := by rw [← hq]; rfl
  refine ⟨?_, ?_, ?_, hn, ?_⟩
  · rw [hs, e1]
    cases s
    · simp [sg]
    · by_cases hc : C = 0
      · subst hc; rfl
      · simp [sg, hc]; omega
  · rw [e1, sg_abs]; exact h1
  · rw [e2, toL_one]; exact h2
  · have := h2.len; simp at this; omega

section
variable {w : World} {s : Bool} {no : Option Addr} {nn nc : Nat} {eo : Option Addr} {en ec : Nat} {K : Nat} {q : Rat}
end
end Go.Proofs.YtbobhhnhlgdkiaaGreat

/- rat: Sqrt. -/
namespace Go.Proofs.YtbobhhnhlgdkiaaGreat
open Go.RowKit M Kahn
set_option maxRecDepth 100000

theorem Cq.root {w : World} {no : Option Addr} {nn nc : Nat} {eo : Option Addr} {en ec : Nat} {q : Rat} {K : Nat} (hs : qsq q = true) (h1 : Sl w.heap.size w no nn nc (toL (isq q.num.natAbs))) (h2 : Sl w.heap.size w eo en ec (toL (isq q.den))) (hn : nn ≤ K) (hd : en ≤ K) : Cq w false no nn nc eo en ec (qsqrt q) K := by
  have hq : qsqrt q = rq false (isq q.num.natAbs) (isq q.den) := by unfold qsqrt; rw [hs, if_pos rfl]
  unfold qsq at hs
  obtain ⟨_, e1, e2⟩ := of_decide_eq_true hs
  have hd0 : isq q.den ≠ 0 := by intro e; rw [e] at e2; exact q.den_nz e2.symm
  have hg : Nat.gcd (isq q.num.natAbs) (isq q.den) = 1 := by
    have hr := q.reduced
    have h3 : Nat.gcd (isq q.num.natAbs) (isq q.den) ∣ Nat.gcd q.num.natAbs q.den := by
      refine Nat.dvd_gcd ?_ ?_
      · exact Nat.dvd_trans (Nat.gcd_dvd_left _ _) ⟨_, e1.symm⟩
      · exact Nat.dvd_trans (Nat.gcd_dvd_right _ _) ⟨_, e2.symm⟩
    have hr' : Nat.gcd q.num.natAbs q.den = 1 := hr
    rw [hr'] at h3
    exact Nat.dvd_one.1 h3
  have a1 := rq_natAbs (s := false) (n := isq q.num.natAbs) hd0
  have a2 := (rq_canon (s := false) (n := isq q.num.natAbs) hd0).2
  have a3 := (rq_canon (s := false) (n := isq q.num.natAbs) hd0).1
  rw [hg, Nat.div_one] at a1 a2 a3
  rw [← hq] at a1 a2 a3
  refine ⟨?_, by rw [a1]; exact h1, by rw [a2]; exact h2, hn, hd⟩
  rw [a3]
  simp [sg]

section
variable {w : World} {s : Bool} {no : Option Addr} {nn nc : Nat} {eo : Option Addr} {en ec : Nat} {K : Nat} {q : Rat}
end
end Go.Proofs.YtbobhhnhlgdkiaaGreat

/- rat: isNormal, Check. -/
namespace Go.Proofs.YtbobhhnhlgdkiaaGreat
open Go.RowKit M Kahn
set_option maxRecDepth 100000

section
variable {w : World} {s : Bool} {no : Option Addr} {nn nc : Nat} {eo : Option Addr} {en ec : Nat} {K : Nat} {q : Rat}
end
end Go.Proofs.YtbobhhnhlgdkiaaGreat

/- Package rat's functions, by their contracts. -/
