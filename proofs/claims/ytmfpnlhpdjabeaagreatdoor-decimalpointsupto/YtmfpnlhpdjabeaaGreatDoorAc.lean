/- rat: Floor. -/
import Derived.Test.YtmfpnlhpdjabeaaGreatDoorAa
import Derived.Test.YtmfpnlhpdjabeaaGreatDoorAb
namespace Go.Proofs.YtmfpnlhpdjabeaaGreatDoor
open Go.RowKit M Kahn

theorem floor_rq {s : Bool} {X Y : Nat} (hY : Y ≠ 0) : rq s (if s = true ∧ X % Y ≠ 0 then X / Y + 1 else X / Y) 1 = qfl (rq s X Y) := by
  by_cases hX : X = 0
  · subst hX
    rw [rq_num0, if_neg (fun h => h.2 (Nat.zero_mod _)), Nat.zero_div, rq_num0]
    rfl
  · have h := qfl_rq (rq s X Y)
    have h1 := rq_natAbs (s := s) (n := X) hY
    have h2 := (rq_canon (s := s) (n := X) hY).2
    have h3 := rq_sign (s := s) hX hY
    have hg := gcd_pos' (n := X) hY
    obtain ⟨a, ha⟩ := Nat.gcd_dvd_left X Y
    obtain ⟨b, hb⟩ := Nat.gcd_dvd_right X Y
    generalize Nat.gcd X Y = G at *
    have ea : X / G = a := by rw [ha]; exact Nat.mul_div_cancel_left a hg
    have eb : Y / G = b := by rw [hb]; exact Nat.mul_div_cancel_left b hg
    rw [h1, h2, ea, eb, h3] at h
    have hn : (rq s X Y).num < 0 ↔ s = true := ⟨fun h => by rw [decide_eq_true h] at h3; exact h3.symm, fun h => of_decide_eq_true (h3.trans h)⟩
    have ed : X / Y = a / b := by rw [ha, hb, Nat.mul_div_mul_left _ _ hg]
    have em : X % Y ≠ 0 ↔ a % b ≠ 0 := by
      have : X % Y = G * (a % b) := by rw [ha, hb, Nat.mul_mod_mul_left]
      rw [this]
      constructor
      · intro h0 h1; exact h0 (by rw [h1, Nat.mul_zero])
      · intro h0; exact Nat.mul_ne_zero (by omega) h0
    rw [ed]
    rw [← h]
    congr 1
    by_cases hc : s = true ∧ X % Y ≠ 0
    · rw [if_pos hc, if_pos ⟨hn.2 hc.1, em.1 hc.2⟩]
    · rw [if_neg hc, if_neg (fun h => hc ⟨hn.1 h.1, em.2 h.2⟩)]

/-- A whole number's canonical Rat. -/
theorem Cq.whole {w : World} {s s' : Bool} {no : Option Addr} {nn nc : Nat} {eo : Option Addr} {en ec : Nat} {q : Rat} {C K : Nat} (hq : rq s C 1 = q) (hs : s' = (s && decide (C ≠ 0))) (h1 : Sl w.heap.size w no nn nc (toL C)) (h2 : Sl w.heap.size w eo en ec [1]) (hn : nn ≤ K) (hK : 1 ≤ K) : Cq w s' no nn nc eo en ec q K := by
  rw [rq_one] at hq
  have e1 : q.num = sg s C := by rw [← hq]; rfl
  have e2 : q.den = 1 := by rw [← hq]; rfl
  refine ⟨?_, ?_, ?_, hn, ?_⟩
  · rw [hs, e1]
    cases s
    · simp [sg]
    · by_cases hc : C = 0
      · subst hc; rfl
      · simp [sg, hc]; omega
  · rw [e1, sg_abs]; exact h1
  · rw [e2, toL_one]; exact h2
  · have := h2.len; simp at this; omega

section
variable {w : World} {s : Bool} {no : Option Addr} {nn nc : Nat} {eo : Option Addr} {en ec : Nat} {K : Nat} {q : Rat}
end
end Go.Proofs.YtmfpnlhpdjabeaaGreatDoor

/- rat: Sqrt. -/
namespace Go.Proofs.YtmfpnlhpdjabeaaGreatDoor
open Go.RowKit M Kahn

theorem Cq.root {w : World} {no : Option Addr} {nn nc : Nat} {eo : Option Addr} {en ec : Nat} {q : Rat} {K : Nat} (hs : qsq q = true) (h1 : Sl w.heap.size w no nn nc (toL (isq q.num.natAbs))) (h2 : Sl w.heap.size w eo en ec (toL (isq q.den))) (hn : nn ≤ K) (hd : en ≤ K) : Cq w false no nn nc eo en ec (qsqrt q) K := by
  have hq : qsqrt q = rq false (isq q.num.natAbs) (isq q.den) := by unfold qsqrt; rw [hs, if_pos rfl]
  unfold qsq at hs
  obtain ⟨_, e1, e2⟩ := of_decide_eq_true hs
  have hd0 : isq q.den ≠ 0 := by intro e; rw [e] at e2; exact q.den_nz e2.symm
  have hg : Nat.gcd (isq q.num.natAbs) (isq q.den) = 1 := by
    have hr := q.reduced
    have h3 : Nat.gcd (isq q.num.natAbs) (isq q.den) ∣ Nat.gcd q.num.natAbs q.den := by
      refine Nat.dvd_gcd ?_ ?_
      · exact Nat.dvd_trans (Nat.gcd_dvd_left _ _) ⟨_, e1.symm⟩
      · exact Nat.dvd_trans (Nat.gcd_dvd_right _ _) ⟨_, e2.symm⟩
    have hr' : Nat.gcd q.num.natAbs q.den = 1 := hr
    rw [hr'] at h3
    exact Nat.dvd_one.1 h3
  have a1 := rq_natAbs (s := false) (n := isq q.num.natAbs) hd0
  have a2 := (rq_canon (s := false) (n := isq q.num.natAbs) hd0).2
  have a3 := (rq_canon (s := false) (n := isq q.num.natAbs) hd0).1
  rw [hg, Nat.div_one] at a1 a2 a3
  rw [← hq] at a1 a2 a3
  refine ⟨?_, by rw [a1]; exact h1, by rw [a2]; exact h2, hn, hd⟩
  rw [a3]
  simp [sg]

theorem neg_of_sgn {q : Rat} : decide (qsgn q < 0) = decide (q.num < 0) := by
  rcases qsgn_cases q with ⟨a, b⟩ | ⟨a, b⟩ | ⟨a, b⟩
  · rw [a]; have := num_lt.2 b; simp [this]
  · rw [a, b]; rfl
  · rw [a]; have : ¬ q.num < 0 := by have := num_gt.2 b; omega
    simp [this]

section
variable {w : World} {s : Bool} {no : Option Addr} {nn nc : Nat} {eo : Option Addr} {en ec : Nat} {K : Nat} {q : Rat}
end
end Go.Proofs.YtmfpnlhpdjabeaaGreatDoor

/- rat: isNormal, Check. -/
namespace Go.Proofs.YtmfpnlhpdjabeaaGreatDoor
open Go.RowKit M Kahn

theorem normal_iff {xs : List Nat} (h : Lim xs) : toL (val xs) = xs ↔ (xs.length = 0 ∨ xs.getD (xs.length - 1) 0 ≠ 0) := by
  constructor
  · intro e
    by_cases h0 : val xs = 0
    · left; rw [h0, toL_zero] at e; rw [← e]; rfl
    · right; have := toL_last h0; rwa [e] at this
  · rintro (h0 | h0)
    · exact toL_of_normal h (.inl (List.eq_nil_of_length_eq_zero h0))
    · exact toL_of_normal h (.inr h0)

theorem canon_iff {s : Bool} {xs ys : List Nat} {q : Rat} (hq : rq s (val xs) (val ys) = q) :
    (decide (q.num < 0) = s ∧ toL q.num.natAbs = xs ∧ toL q.den = ys) ↔ (toL (val xs) = xs ∧ toL (val ys) = ys ∧ val ys ≠ 0 ∧ ¬ (s = true ∧ val xs = 0) ∧ Nat.gcd (val xs) (val ys) = 1) := by
  constructor
  · rintro ⟨h1, h2, h3⟩
    have e1 : val xs = q.num.natAbs := by rw [← h2, val_toL]
    have e2 : val ys = q.den := by rw [← h3, val_toL]
    rw [e1, e2]
    refine ⟨h2, h3, q.den_nz, ?_, q.reduced⟩
    rintro ⟨hs, h0⟩
    rw [hs] at h1
    have := of_decide_eq_true h1
    omega
  · rintro ⟨h1, h2, h3, h4, h5⟩
    have a1 := rq_natAbs (s := s) (n := val xs) h3
    have a2 := (rq_canon (s := s) (n := val xs) h3).2
    rw [h5, Nat.div_one] at a1 a2
    rw [hq] at a1 a2
    refine ⟨?_, by rw [a1]; exact h1, by rw [a2]; exact h2⟩
    by_cases hx : val xs = 0
    · have hs : s = false := by cases s; rfl; exact absurd ⟨rfl, hx⟩ h4
      rw [← hq, hx, rq_num0, hs]
      rfl
    · have := rq_sign (s := s) hx h3
      rw [hq] at this
      exact this

section
variable {w : World} {s : Bool} {no : Option Addr} {nn nc : Nat} {eo : Option Addr} {en ec : Nat} {K : Nat} {q : Rat}
end
end Go.Proofs.YtmfpnlhpdjabeaaGreatDoor

/- Package rat's functions, by their contracts. -/
